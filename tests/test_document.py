"""The examples of the whole document, in their order, and the main claims of its first chapter."""

import builtins
import doctest
import unittest

from tests.helping import Case, seeded
from tests.test_backwards import is_led
from tests.test_joined import lively_schema
from tests.test_judged import TURNINGS
from tests.test_tables import all_nodes
from turnsfit.backwards import led_into, led_table
from turnsfit.counting import many_typings
from turnsfit.doubled import single_paper, two_typings
from turnsfit.fitting import fits
from turnsfit.joined import both_of, but_not, either_of
from turnsfit.judged import Breaks, Leads, check_verdict, verdict
from turnsfit.leasttables import least_states
from turnsfit.schemas import node_names
from turnsfit.tables import table_of
from turnsfit.tablesums import both_tables, parting, parting_node

NODES = all_nodes(4, ("x", "y"))

EXAMPLES = {
    '3. Documents': r"""
>>> from turnsfit.nodes import compared, depth_of, least_of, names_of, shape_of, size_of
>>> node = ("list", ("one", ("item", ("x",)), ("item", ())))
>>> size_of(node), depth_of(node), names_of(node), shape_of(node)
(5, 2, ('item', 'list'), ('list', ('', ('item', ('',)), ('item', ()))))
>>> compared(("a", ("b",)), ("a", (("a", ()),))), least_of((("b", ()), ("a", ("", "")), ("c", ())))
(-1, ('b', ()))

>>> from turnsfit.frames import frame_at, frame_place, framed
>>> from turnsfit.places import at_place, place_number, places_of, replaced
>>> places_of(node), at_place(node, (1, 0)), place_number(node, (2,))
(((), (0,), (1,), (1, 0), (2,)), 'x', 4)
>>> frame_at(node, (1, 0))
(('list', ('one',), (('item', ()),)), ('item', (), ()))
>>> framed((("a", (), ("x",)),), ("b", ())), frame_place((("a", ("y",), ()),)), replaced(node, (1,), "")
(('a', (('b', ()), 'x')), (1,), ('list', ('one', '', ('item', ()))))

>>> from turnsfit.nodetext import forest_text, read_forest, read_node, thing_text
>>> thing_text(node), forest_text(("", ("a", ())))
('list("one" item("x") item())', '"" a()')
>>> read_node('a(b("x 1") "")'), read_forest("")
(('a', (('b', ('x 1',)), '')), ())
""",
    '4. Formulas of rows': r"""
>>> from turnsfit.formulas import filled
>>> from turnsfit.formulatext import formula_text, read_formula
>>> formula_text(filled(read_formula("([a b]* c?)"), (("b", ("text",)),)))
'([a #]* c?)'

>>> from turnsfit.rowtables import parting_row, rows_table
>>> table = rows_table(read_formula("(a* b)"), ("a", "b"))
>>> table.nexts, table.ends, parting_row(table, rows_table(read_formula("(a? b)"), ("a", "b")))
(((0, 1), (2, 2), (2, 2)), (1,), ('a', 'a', 'b'))

>>> from turnsfit.rowsums import row_at
>>> from turnsfit.swaps import returns, surroundings
>>> row_at(table, 2), surroundings(table, ("a",), ("b",)), returns(table, ("b",))
(('a', 'a', 'b'), ((), ()), (2, 1))
""",
    '5. Fitting': r"""
>>> from turnsfit.fitting import types_of, typing_of, typings_of
>>> from turnsfit.schematext import read_schema
>>> schema = read_schema("doc, doc doc (head [note par]*), head head #, note par -, par par #*")
>>> node = ("doc", (("head", ("a",)), ("par", ()), ("par", ("x",))))
>>> schema.types[2], types_of(schema, ("par", ())), len(typings_of(schema, node, 9))
(('note', 'par', ('empty',)), ('note', 'par'), 2)
>>> typing_of(schema, node)
('doc', (('head', ('',)), ('note', ()), ('par', ('',))))

>>> from turnsfit.refusals import bar, refusal
>>> from turnsfit.wanting import wanted_letters
>>> refusal(schema, ("doc", (("par", ()),))), bar(schema, ("doc", (("par", ()),)))
(((), ((('note', 'par'), ()),)), ((), 'row'))
>>> bar(schema, ("par", ())), wanted_letters(schema, (("doc", (("head", ("a",)),), ()),))
(((), 'top'), ('note', 'par'))

>>> from turnsfit.doubled import single_paper, two_typings
>>> two_typings(schema)[0], single_paper(read_schema("a, a a (b c?), b b -, c b #"))
(('doc', (('head', ('',)), ('par', ()))), ((('a', 'a'), ('b', 'b'), ('c', 'c')), ()))
""",
    '6. Tables': r"""
>>> from turnsfit.schemas import Schema
>>> from turnsfit.tables import Table, state_of, table_of, takes
>>> lists = Schema((("i", "item", ("maybe", ("text",))), ("l", "list", ("some", ("one", "i")))), ("l",))
>>> known = table_of(lists, ("item", "list"))
>>> takes(known, ("list", (("item", ()), ("item", ("x",))))), takes(known, ("list", ())), state_of(known, ("menu", ()))
(True, False, None)

>>> from turnsfit.leasttables import least_table, state_nodes
>>> least_table(Schema((("a", "a", ("star", ("one", "a"))),), ("a",))) == Table(("a",), (0,), (1, 1), ((0, 1), (1, 1)), (0,))
True
>>> least_table(lists) == Table(("item", "list"), (0, 1), (2, 3, 3, 3, 3), ((3, 3, 3, 3, 3), (4, 3, 4, 3, 3), (3,) * 5, (3,) * 5, (4, 3, 4, 3, 3)), (4,))
True

>>> from turnsfit.statepapers import check_states, parting_frame, state_paper
>>> from turnsfit.tablesums import but_tables, parting, schema_of
>>> parting(lists, Schema((("i", "item", ("maybe", ("text",))), ("l", "list", ("star", ("one", "i")))), ("l",)))
('list', ())
>>> parting(lists, Schema(lists.types + (("z", "zoo", ("empty",)),), ("l",))) is None
True

>>> state_nodes(least_table(lists))
(('item', ()), ('list', ()), ('item', ('',)), ('item', (('item', ()),)), ('list', (('item', ()),)))

>>> first = least_table(lists)
>>> parting_frame(first, ("item", ()), ("item", ("x",))), parting_frame(first, ("item", ()), ("list", ())) is None
(None, False)
>>> check_states(first, state_paper(first)), but_tables(first, first).ends
(True, ())
""",
    '7. Streams': r"""
>>> from turnsfit.goingon import first_bar, next_marks
>>> from turnsfit.schemas import Schema
>>> from turnsfit.streaming import Reader
>>> more = (("note", "w", ("text",)), ("par", "p", ("star", ("one", "note"))), ("word", "w", ("maybe", ("text",))))
>>> plan = Schema((("doc", "d", ("row", (("one", "head"), ("star", ("one", "par"))))), ("head", "h", ("one", "word"))) + more, ("doc",))
>>> reader = Reader(plan)
>>> reader.read(("open", "d")), reader.read(("open", "h")), reader.read(("open", "w")), reader.types_now()
('on', 'on', 'on', (('doc',), ('head',), ('word',)))
>>> next_marks(plan, (("open", "d"), ("open", "h"), ("open", "w"), ("close",))), first_bar(plan, (("open", "d"), ("open", "p")))
(((), False, True), 1)

>>> from turnsfit.exchanges import check_exchange, plain_or_exchange
>>> from turnsfit.ways import rivals, types_by_way
>>> two = Schema((("a", "x", ("row", (("one", "b"), ("one", "c")))), ("b", "y", ("empty",)), ("c", "y", ("text",))), ("a",))
>>> types_by_way(plan, ("d", "p", "w")), rivals(plan), rivals(two), plain_or_exchange(two)[0]
(('note',), None, ('a', 'b', 'c'), 'exchange')
>>> node = ("x", (("y", ()), ("y", ("",))))
>>> check_exchange(two, (node, (0,), node, (1,)))
True
""",
    '8. Schemas put together': r"""
>>> from turnsfit.alive import alive_types, check_dead, order_paper, trimmed
>>> from turnsfit.schematext import read_schema
>>> plan = read_schema("doc, doc doc (head [par old]*), head head #, old box (par old+), par par #")
>>> alive_types(plan), order_paper(plan), check_dead(plan, ("old",)), trimmed(plan).tops
(('doc', 'head', 'par'), ('head', 'par', 'doc'), True, ('doc',))

>>> from turnsfit.joined import both_of, either_of, is_within
>>> from turnsfit.leastnodes import largest, least_document, sizes_paper
>>> few = read_schema("doc, doc doc (head head?), head head #")
>>> least_document(plan), largest(plan), largest(few), sizes_paper(few)
(('doc', (('head', ('',)),)), None, 5, (3, 2))
>>> is_within(few, plan), is_within(few, either_of(plan, few)), least_document(both_of(plan, few))
(('doc', (('head', ('',)), ('head', ('',)))), None, ('doc', (('head', ('',)),)))

>>> from turnsfit.counting import many_of_size, many_typings, node_at, shape_number
>>> many_of_size(plan, 5), node_at(few, 2), shape_number(plan, ("doc", (("head", ("",)),)))
(1, None, 0)
>>> many_typings(either_of(few, few), ("doc", (("head", ("",)),)))
2
""",
    '9. Turnings': r"""
>>> from turnsfit.turnings import made_size, origins, turned
>>> from turnsfit.turningtext import read_turning, turning_text
>>> turning = read_turning('a, a # *, a doc list(!b), b par item(!a)')
>>> node = ("doc", (("head", ("h",)), ("par", ("x", ("doc", ())))))
>>> turning.rules[2]
('b', 'par', (('node', 'item', (('go', 'a'),)),))
>>> turned(turning, node), made_size(turning, node), origins(turning, node)
((('list', (('item', ('x', ('list', ()))),)),), 4, ((), (1,), (1, 0), (1, 1)))

>>> from turnsfit.around import parts_around
>>> from turnsfit.composed import composed, lean
>>> parts_around(turning, node, (1, 1))
(('node', 'list', (('node', 'item', (('say', 'x'), ('go', 'a'))),)),)
>>> turned(composed(turning, read_turning('k, k # "t" *, k list ul(!k)')), node)
(('ul', ('t', 'x', ('ul', ()))),)
>>> turning_text(lean(read_turning('k, k x y(!m), m x y(!k), m z !k')))
'a, a x y(!a)'

>>> from turnsfit.growth import check_growing, fruit, most_uses, size_factor
>>> twice = read_turning('a, a # *, a x !a !a')
>>> check_growing(twice, ((), ("x",), "a", "a")), most_uses(twice)
(True, None)
>>> most_uses(turning), size_factor(turning), fruit(turning, "b")
(1, 1, ('par', ()))
""",
    '10. The middle': r"""
>>> from turnsfit.effects import effect_of
>>> from turnsfit.tables import Table
>>> pairs = Table(("a",), (0,), (1, 0), ((1, 1), (0, 0)), (0,))
>>> effect_of(pairs, ()), effect_of(pairs, ("",)), effect_of(pairs, (("a", ()),)), effect_of(pairs, (("a", ("x",)),))
((0, 1, 2, 3, 4), (1, 0, 4, 4, 4), (1, 0, 3, 4, 4), (1, 0, 4, 4, 4))

>>> from turnsfit.bearings import bearing_of, goal_table, made_names, node_bearing
>>> from turnsfit.schemas import Schema
>>> from turnsfit.turnings import Turning
>>> bare = Turning((("m", "item", (("node", "row", (("go", "m"),)),)), ("m", "list", (("node", "table", (("go", "m"),)),))), "m")
>>> rows = Schema((("r", "row", ("empty",)), ("t", "table", ("some", ("one", "r")))), ("t",))
>>> made_names(bare), len(goal_table(bare, rows).texts)
(('row', 'table'), 4)
>>> bearing_of(bare, goal_table(bare, rows), ("x", "y")) == bearing_of(bare, goal_table(bare, rows), ())
True

>>> from turnsfit.backwards import led_table, one_made
>>> from turnsfit.tables import takes
>>> led = led_table(bare, rows, ("item", "list", "page"))
>>> takes(led, ("page", ("x", ("list", (("item", ()), "y"))))), takes(led, ("list", ("x",))), takes(led, ("item", ()))
(True, False, False)
>>> takes(one_made(bare, ("item", "page")), ("page", (("item", ()), ("item", ()))))
False

>>> from turnsfit.judged import Breaks, Leads, check_verdict, verdict
>>> lists = Schema((("i", "item", ("maybe", ("text",))), ("l", "list", ("star", ("one", "i")))), ("l",))
>>> verdict(bare, lists, rows) == Breaks(("list", ()), ())
True
>>> some = Schema((("i", "item", ("maybe", ("text",))), ("l", "list", ("some", ("one", "i")))), ("l",))
>>> len(verdict(bare, some, rows).marks), check_verdict(bare, some, rows, verdict(bare, some, rows))
(4, True)

>>> from turnsfit.chains import first_break, made_along
>>> made_along((bare, bare), ("list", (("item", ()),))), made_along((bare,), ("list", (("item", ("x",)),)))
(None, ('table', (('row', ()),)))
>>> first_break((bare,), (lists, rows)) == (0, Breaks(("list", ()), ())), first_break((), (lists,))
(True, None)
""",
    '11. Asks': r"""
>>> from turnsfit.asks import Ask
>>> from turnsfit.pointed import answer_beyond, pointed_node, unanswered
>>> from turnsfit.schemas import Schema
>>> from turnsfit.walks import answers, from_both
>>> two = Schema((("a", "x", ("row", (("one", "b"), ("one", "c")))), ("b", "y", ("empty",)), ("c", "y", ("text",))), ("a",))
>>> ask, node = Ask(two, ("c",)), ("x", (("y", ()), ("y", ("q",))))
>>> answers(ask, node), answers(ask, ("x", (("y", ("q",)),))), from_both(two, node)
(((1,),), (), (('a',), ((('b',), ()), (('c',), ('',)))))
>>> pointed_node(node, (1,), "here"), unanswered(ask), answer_beyond(ask, Ask(two, ("b", "c")))
(('x', (('y', ()), ('y', (('here', ()), 'q')))), None, None)
""",
    '12. Edits and kept documents': r"""
>>> from turnsfit.edits import done, undoing
>>> from turnsfit.merging import both_ways, do_clash, edit_behind, merged
>>> node = ("doc", ("hi", ("b", ())))
>>> done(node, ("put", (1,), 0, "yes")), undoing(node, ("drop", (), 0))
(('doc', ('hi', ('b', ('yes',)))), ('put', (), 0, 'hi'))
>>> edit_behind(("say", (), 0, "ho"), ("put", (), 0, "")), do_clash(("name", (), "a"), ("name", (), "b"))
(('say', (), 1, 'ho'), True)
>>> ones, others = (("name", (1,), "c"), ("drop", (), 0)), (("put", (1,), 0, "x"), ("put", (), 0, ("a", ())))
>>> both_ways(ones, others)[0], merged(node, ones, others)
((('put', (0,), 0, 'x'), ('put', (), 0, ('a', ()))), ('doc', (('a', ()), ('c', ('x',)))))

>>> from turnsfit.kept import Kept
>>> from turnsfit.lots import lots_of, welcome, would_fit
>>> from turnsfit.schemas import Schema
>>> form = ("row", (("text",), ("star", ("one", "par"))))
>>> schema = Schema((("doc", "doc", form), ("par", "b", ("maybe", ("text",)))), ("doc",))
>>> lots_of(schema, node), welcome(schema, node, (), 1), would_fit(schema, node, ("drop", (), 0))
((('doc',), ('',), ('par',)), ('par',), False)
>>> kept = Kept(schema, node)
>>> kept.do(("put", (1,), 0, "x")), kept.do(("put", (1,), 0, ("b", ()))), kept.bars()
(1, 3, ((1,),))
>>> kept.undo(), kept.fits(), kept.can(("drop", (), 1))
(True, True, True)
""",
    '13. Documents mended': r"""
>>> from turnsfit.costs import check_mend, edits_cost, mend_cost, mend_made
>>> from turnsfit.schematext import read_schema
>>> plan = read_schema("doc, doc doc (head par*), head head #, par par #*")
>>> node = ("doc", (("par", ("a",)), "b"))
>>> mend = ("doc", (("put", "head"), ("keep", ("par", (("keep", ""),))), ("drop",)))
>>> check_mend(plan, node, mend), mend_cost(plan, node, mend), mend_made(plan, node, mend)
(True, 3, ('doc', (('head', ('',)), ('par', ('a',)))))
>>> edits_cost(node, (("drop", (), 1), ("name", (0,), "head")))
2

>>> from turnsfit.mended import check_low, distance, low_paper, sure_places
>>> distance(plan, node), check_low(plan, node, low_paper(plan, node), 2), check_low(plan, node, low_paper(plan, node), 3)
(2, True, False)
>>> sure_places(plan, node), sure_places(plan, ("doc", (("head", ()), ("par", ()))))
(((), (0,), (0, 0)), ((), (0,), (1,)))
""",
    '14. The house': r"""
>>> from turnsfit.house import House
>>> from turnsfit.houseruns import check_house_paper, house_paper
>>> house = House()
>>> house.do(("batch", (("schema", "list", (("all", "ul", ("star", ("one", "item"))), ("item", "li", ("text",))), ("all",)), ("document", "mine", "list", ("ul", (("li", ("a",)),))))))
'done'
>>> house.do(("edit", "mine", ("put", (), 1, "b"))), house.why_now(), house.names_now("schema"), house.do(("drop", "list"))
('bars', ('bars', 'mine', (), 'row'), ('list',), 'used')
>>> house.do(("edit", "mine", ("put", (), 1, ("li", ("b",))))), house.thing_now("mine")[1][1], house.depth()
('done', ('ul', (('li', ('a',)), ('li', ('b',)))), (2, 0))
>>> check_house_paper(house, house_paper(house)), house.do(("undo",)), house.do(("undo",)), house.names_now("document")
(True, 'done', 'done', ())
""",
    '15. Sheets, facts, desks and audits': r"""
>>> from turnsfit.audit import audit
>>> from turnsfit.desk import Desk
>>> desk = Desk()
>>> desk.say("all schema list all, all ul item*, item li #; document mine list ul(li(\"a\"))"), desk.say("edit mine put - 1 \"b\"")
(('did', 'done'), ('did', 'bars'))
>>> desk.say("edit mine put - 1 li(\"b\")"), desk.say("thing mine"), desk.say("fits list mine"), desk.say("empty mine")
(('did', 'done'), ('told', 'document mine list ul(li("a") li("b"))'), ('told', True), ('refused', 'sort'))
>>> audit(desk.record()), audit((("empty list", ("told", True), ()),)), audit((("fits a b", ("refused", "name"), ()),))
(None, 0, None)
""",
}


class DocumentTest(Case):
    def test_examples(self):
        many = 0
        for chapter, text in EXAMPLES.items():
            test = doctest.DocTestParser().get_doctest(text, {}, chapter, None, 0)
            runner = doctest.DocTestRunner(verbose=False)
            told = []
            runner.run(test, out=told.append)
            self.assertEqual(runner.failures, 0, "".join(told))
            many += len(test.examples)
        # What shows results keeps the last one among Python's own names.
        vars(builtins).pop("_", None)
        self.assertTrue(many > 150, many)

    def test_what_is_made_always_fits(self):
        """For every document of one schema what is made is a document of another exactly if the told paper is taken."""
        chance = seeded(1001)
        told = [0, 0]
        for _ in range(60):
            turning, schema, other = chance.choice(TURNINGS), lively_schema(chance, 3), lively_schema(chance, 3)
            if chance.random() < .4:
                turning, other = TURNINGS[0], schema
            found = verdict(turning, schema, other)
            self.assertTrue(check_verdict(turning, schema, other, found))
            always = all([is_led(turning, other, node) for node in NODES if fits(schema, node)])
            self.assertTrue(always or isinstance(found, Breaks))
            self.assertTrue(isinstance(found, Leads) or not is_led(turning, other, found.node))
            self.assertIs(isinstance(found, Leads), parting_into(turning, schema, other) is None)
            told[isinstance(found, Leads)] += 1
        self.assertTrue(min(told) > 10, told)

    def test_what_is_led_is_a_schema_again(self):
        chance = seeded(1002)
        for _ in range(25):
            turning, other = chance.choice(TURNINGS), lively_schema(chance, 2)
            table = led_table(turning, other, ("x", "y"))
            if len(table.texts) < 4:
                schema = led_into(turning, other, ("x", "y"))
                for node in chance.sample(NODES, 60):
                    self.assertIs(fits(schema, node), is_led(turning, other, node))
                self.assertIsInstance(verdict(turning, schema, other), Leads)

    def test_the_same_documents(self):
        """Exactly if the least tables over the names of both are one, else a least document parts them."""
        chance = seeded(1003)
        told = [0, 0]
        for _ in range(80):
            one, other = lively_schema(chance), lively_schema(chance)
            if chance.random() < .5:
                other = either_of(both_of(one, other), but_not(one, other))
            names = tuple(sorted(set(node_names(one) + node_names(other))))
            same = least_states(table_of(one, names)) == least_states(table_of(other, names))
            node = parting(one, other)
            self.assertIs(node is None, same)
            self.assertTrue(node is None or fits(one, node) != fits(other, node))
            told[same] += 1
        self.assertTrue(min(told) > 20, told)

    def test_two_typings_or_one(self):
        chance = seeded(1004)
        for _ in range(60):
            schema = lively_schema(chance)
            found = two_typings(schema)
            self.assertIs(single_paper(schema) is None, found is not None)
            for node in chance.sample(NODES, 60):
                self.assertTrue(many_typings(schema, node) < 2 or found is not None)


def parting_into(turning, schema, other):
    """The least document of a schema that is not among those that are led into another one."""
    names = node_names(schema)
    return parting_node(both_tables(least_states(table_of(schema, names)), led_table(turning, other, names)), table_of(schema, names))


if __name__ == "__main__":
    unittest.main()
