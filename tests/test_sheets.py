"""Point 84: sheets that hold."""

import unittest

from tests.helping import Case, odd_values, seeded
from tests.test_bearings import BARE
from tests.test_joined import lively_schema
from tests.test_judged import LISTS, SOME, TURNINGS
from tests.test_schematext import random_schema
from tests.test_tables import all_nodes
from turnsfit.alive import alive_types, is_empty, order_paper
from turnsfit.asks import Ask, answer_paper
from turnsfit.composed import keeping
from turnsfit.doubled import single_paper, two_typings
from turnsfit.exchanges import plain_or_exchange
from turnsfit.facts import all_facts, facts_of, told_by
from turnsfit.fitting import fits, giving_of, typing_of, typings_of
from turnsfit.growth import growing
from turnsfit.joined import is_within
from turnsfit.judged import Leads, verdict
from turnsfit.leastnodes import least_document, least_node, sizes_paper
from turnsfit.leasttables import least_states, least_table
from turnsfit.mended import distance, least_mend, low_paper
from turnsfit.nodes import size_of
from turnsfit.refusals import refusal
from turnsfit.schemas import Schema, kinds_of, node_names
from turnsfit.schematext import read_schema
from turnsfit.sheets import sheet_holds
from turnsfit.statepapers import state_paper
from turnsfit.tables import Table
from turnsfit.turnings import Turning
from turnsfit.turningtext import read_turning
from turnsfit.walks import answers

NODES = all_nodes(4, ("x", "y"))
TWICE = read_turning("a, a # *, a x !a !a")
WORDS = ("fits", "unfit", "costs", "answer", "single", "twice", "some", "alive", "dead", "none", "plain", "exchange", "smallest", "least",
         "within", "beyond", "leads", "breaks", "growing")


def marks_within(one, other):
    return verdict(keeping(node_names(one)), one, other).marks


def sheets_of(schema, other, node, turning, ask):
    """Sheets about some things, one of each word that can hold of them."""
    found = [("alive", schema, order_paper(schema)), ("dead", schema, tuple([kind for kind in kinds_of(schema) if kind not in alive_types(schema)]))]
    if fits(schema, node):
        found.append(("fits", (schema, node), typing_of(schema, node)))
    else:
        found.append(("unfit", (schema, node), refusal(schema, node)))
    if is_empty(schema):
        found.append(("none", schema, found[1][2]))
    else:
        found.append(("costs", (schema, node), (least_mend(schema, node), low_paper(schema, node))))
        least = least_document(schema)
        found.append(("some", schema, (least, typing_of(schema, least))))
    two = two_typings(schema)
    found.append(("single", schema, single_paper(schema)) if two is None else ("twice", schema, two))
    plain = plain_or_exchange(schema)
    if plain[0] == "plain":
        found.append(("plain", schema, (plain[1], marks_within(schema, plain[1]), marks_within(plain[1], schema))))
    else:
        found.append(("exchange", schema, plain[1:]))
    for kind in alive_types(schema)[:1]:
        least = least_node(schema, kind)
        found.append(("smallest", (schema, kind), (least, giving_of(schema, least, kind), sizes_paper(schema))))
    beyond = is_within(schema, other)
    if beyond is None:
        found.append(("within", (schema, other), marks_within(schema, other)))
    else:
        found.append(("beyond", (schema, other), (beyond, typing_of(schema, beyond), refusal(other, beyond))))
    told = verdict(turning, schema, other)
    found.append(("leads", (turning, schema, other), told.marks) if isinstance(told, Leads) else ("breaks", (turning, schema, other), (told.node, told.place)))
    table = least_table(schema)
    found.append(("least", table, state_paper(table)))
    for place in answers(ask, node)[:1]:
        found.append(("answer", (ask, node, place), answer_paper(ask, node, place)))
    if growing(turning) is not None:
        found.append(("growing", turning, growing(turning)))
    return found


def truth(word, question):
    """The answer to the question of a fact, by a search."""
    if word == "fits":
        return fits(*question)
    if word == "cost":
        return distance(*question)
    if word == "answer":
        return question[2] in answers(question[0], question[1])
    if word == "single":
        return two_typings(question) is None
    if word == "empty":
        return is_empty(question)
    if word == "alive":
        return question[1] in alive_types(question[0])
    if word == "plain":
        return plain_or_exchange(question)[0] == "plain"
    if word == "within":
        return is_within(*question) is None
    if word == "size":
        return size_of(least_node(*question))
    if word == "states":
        return len(least_states(question).texts)
    if word == "leads":
        return isinstance(verdict(*question), Leads)
    return growing(question) is not None


def random_case(chance):
    schema, other = lively_schema(chance, 3) if chance.random() < .85 else random_schema(chance), lively_schema(chance, 3)
    if chance.random() < .3:
        other = schema
    node = chance.choice([node for node in NODES if fits(schema, node)] or NODES) if chance.random() < .5 else chance.choice(NODES)
    ask = Ask(schema, tuple([kind for kind in kinds_of(schema) if chance.random() < .6]))
    return schema, other, node, chance.choice(TURNINGS + [TWICE]), ask


def changed(chance, value, depth=0):
    """Any value with one thing in it turned, left out, put twice, or exchanged."""
    if isinstance(value, tuple) and value and (depth < 1 or chance.random() < .85):
        at = chance.randrange(len(value))
        kind = chance.random()
        if kind < .12:
            return value[:at] + value[at + 1:]
        if kind < .2:
            return value + value[at:at + 1]
        if kind < .28:
            return value[::-1]
        return value[:at] + (changed(chance, value[at], depth + 1),) + value[at + 1:]
    if isinstance(value, bool) or value is None:
        return 0
    if isinstance(value, int):
        return chance.choice((value + 1, value - 1, bool(value), 0))
    if isinstance(value, Schema):
        return Schema(changed(chance, value.types), value.tops) if chance.random() < .7 else Schema(value.types, changed(chance, value.tops))
    if isinstance(value, Turning):
        return Turning(changed(chance, value.rules), value.mode)
    if isinstance(value, Ask):
        return Ask(value.schema, changed(chance, value.marked))
    if isinstance(value, Table):
        return Table(value.names, value.begins, value.texts, value.steps, changed(chance, value.ends))
    return chance.choice(("a", "b", "x", "", "maybe", (), 1, None, ("a",), ("x", ())))


class SheetsTest(Case):
    def test_sheets_that_hold(self):
        """One of each word; their facts are true, and all that follows from them."""
        chance = seeded(841)
        words = {}
        for _ in range(80):
            case = random_case(chance)
            facts = []
            for sheet in sheets_of(*case):
                words[sheet[0]] = words.get(sheet[0], 0) + 1
                self.assertIs(sheet_holds(value=sheet), True, sheet[0])
                self.assertIs(sheet_holds(list(sheet)), False)
                facts.extend(facts_of(sheet))
            for word, question, answer in all_facts(facts):
                self.assertEqual(truth(word, question), answer, word)
                self.assertEqual(told_by(facts, word, question), answer)
        self.assertEqual(sorted(words), sorted(WORDS))
        self.assertTrue(min(words.values()) > 3, words)

    def test_sheets_changed(self):
        """Whatever is changed in a sheet, if it holds its facts are true: no two sheets tell two answers."""
        chance = seeded(842)
        told = {}
        for _ in range(60):
            for sheet in sheets_of(*random_case(chance)):
                for _ in range(12):
                    word, question, paper = sheet
                    kind = chance.random()
                    if kind < .6:
                        paper = changed(chance, paper)
                    elif kind < .9:
                        question = changed(chance, question)
                    else:
                        word = chance.choice(WORDS)
                    holds = sheet_holds((word, question, paper))
                    told.setdefault(word, [0, 0])[holds] += 1
                    if holds:
                        for fact in facts_of((word, question, paper)):
                            self.assertEqual(truth(fact[0], fact[1]), fact[2], fact[0])
        for word in WORDS:
            self.assertTrue(told[word][0] > 10, (word, told[word]))
        self.assertTrue(sum([pair[1] for pair in told.values()]) > 50, told)

    def test_one_thing_turned(self):
        """For each word a sheet that holds, and such with one thing turned in its question or its paper."""
        plan, few = read_schema("a, a x b*, b y #?"), read_schema("a, a x b?, b y #?")
        double = read_schema("a, a x [b c]*, b y -, c y #?")
        node, other = ("x", (("y", ("q",)),)), ("x", (("y", ()), ("y", ())))
        ask, table = Ask(double, ("b",)), least_table(few)
        giving, mend = typing_of(few, node), least_mend(few, other)
        pairs = (
            (("fits", (few, node), giving), ("fits", (few, other), giving), ("fits", (few, node), ("a", (("b", ()),))), ("fits", [few, node], giving)),
            (("unfit", (few, other), refusal(few, other)), ("unfit", (plan, other), refusal(few, other)), ("unfit", (few, node), refusal(few, other)),
             ("unfit", (few, other), (("a",),) + refusal(few, other)[1:])),
            (("costs", (few, other), (mend, low_paper(few, other))), ("costs", (few, other), (mend, low_paper(few, node))), ("costs", (few, other), [mend, low_paper(few, other)]),
             ("costs", (few, other), (("a", (("drop",), ("drop",))), low_paper(few, other))), ("costs", (plan, other), (mend, low_paper(few, other)))),
            (("answer", (ask, other, (0,)), answer_paper(ask, other, (0,))), ("answer", (ask, other, ()), answer_paper(ask, other, (0,))),
             ("answer", (Ask(double, ("a",)), other, (0,)), answer_paper(ask, other, (0,))), ("answer", (Ask(double, ["b"]), other, (0,)), answer_paper(ask, other, (0,)))),
            (("single", plan, single_paper(plan)), ("single", double, single_paper(plan)), ("single", plan, (single_paper(plan)[0], ("a",))), ("single", (plan,), single_paper(plan))),
            (("twice", double, two_typings(double)), ("twice", plan, two_typings(double)), ("twice", double, two_typings(double)[:2] + two_typings(double)[1:2]),
             ("twice", double, two_typings(double)[::-1])),
            (("some", plan, (node, typing_of(plan, node))), ("some", plan, (other, typing_of(plan, node))), ("some", Schema(plan.types, ()), (node, typing_of(plan, node))),
             ("some", plan, typing_of(plan, node))),
            (("alive", plan, ("b", "a")), ("alive", plan, ("b", "b")), ("alive", plan, ["b", "a"]), ("alive", read_schema("a, a x (b), b y b"), ("a",))),
            (("dead", read_schema("a, a x (b), b y b"), ("a", "b")), ("dead", plan, ("a", "b")), ("dead", read_schema("a, a x (b), b y b"), ("a",)), ("dead", plan, None)),
            (("none", read_schema("a, a x (b), b y b"), ("b", "a")), ("none", read_schema("a, a x (b), b y b"), ("b",)), ("none", plan, ()), ("none", read_schema("a, a x #"), ("a",))),
            (("plain", plan, (few, marks_within(few, few), marks_within(few, few))),),
            (("plain", few, (few, marks_within(few, few), marks_within(few, few))), ("plain", few, (plan, marks_within(few, plan), marks_within(few, plan))),
             ("plain", double, (plan, (), ())), ("plain", few, (few, marks_within(few, few), ())), ("plain", few, (few, marks_within(few, few)))),
            (("smallest", (plan, "b"), (("y", ()), ("b", ()), (1, 1))), ("smallest", (plan, "b"), (("y", ()), ("b", ()), (1, 2))), ("smallest", (plan, "a"), (("y", ()), ("b", ()), (1, 1))),
             ("smallest", (plan, "b"), (("y", ("",)), ("b", ("",)), (1, 1))), ("smallest", (plan, "c"), (("y", ()), ("b", ()), (1, 1)))),
            (("least", table, state_paper(table)), ("least", least_table(plan), state_paper(table)), ("least", table, state_paper(table)[::-1]), ("least", (table,), state_paper(table))),
            (("within", (few, plan), marks_within(few, plan)), ("within", (plan, few), marks_within(few, plan)), ("within", (few, plan), ()), ("within", (few, plan), Leads(marks_within(few, plan)))),
            (("beyond", (plan, few), (other, typing_of(plan, other), refusal(few, other))), ("beyond", (few, plan), (other, typing_of(plan, other), refusal(few, other))),
             ("beyond", (plan, few), (node, typing_of(plan, node), refusal(few, other))), ("beyond", (plan, few), (other, refusal(few, other), typing_of(plan, other)))),
            (("leads", (BARE, SOME, read_schema("t, r row -, t table r+")), verdict(BARE, SOME, read_schema("t, r row -, t table r+")).marks), ("leads", (BARE, LISTS, SOME), ()),
             ("leads", (read_turning("a"), SOME, read_schema("t, r row -, t table r+")), verdict(BARE, SOME, read_schema("t, r row -, t table r+")).marks)),
            (("breaks", (BARE, LISTS, SOME), (("list", ()), (0,))),),
            (("breaks", (BARE, LISTS, SOME), (("list", ()), ())), ("breaks", (BARE, LISTS, SOME), (("list", ("x",)), ())), ("breaks", (BARE, LISTS, SOME), ((), ("list", ())))),
            (("growing", TWICE, growing(TWICE)), ("growing", read_turning("a, a # *, a x !a"), growing(TWICE)), ("growing", TWICE, growing(TWICE)[:3]), ("growing", TWICE, (("y",), (), "a", "a"))))
        words = set()
        for row in pairs:
            self.assertIs(sheet_holds(row[0]), len(row) > 1, row[0][0])
            if len(row) > 1:
                words.add(row[0][0])
            for sheet in row[1:]:
                self.assertIs(sheet_holds(sheet), False, sheet[0])
        self.assertEqual(words, set(WORDS) - {"exchange"})
        two = Schema((("a", "x", ("row", (("one", "b"), ("one", "c")))), ("b", "y", ("empty",)), ("c", "y", ("text",))), ("a",))
        paper = plain_or_exchange(two)[1:]
        self.assertEqual([sheet_holds(("exchange", schema, told)) for schema, told in ((two, paper), (plan, paper), (two, paper[2:] + paper[:2]), (two, ("exchange",) + paper))],
                         [True, False, paper[1] != paper[3] and sheet_holds(("exchange", two, paper[2:] + paper[:2])), False])

    def test_any_value(self):
        chance = seeded(843)
        case = random_case(chance)
        for value in odd_values():
            self.assertIs(sheet_holds(value), False)
            for word in WORDS:
                for sheet in ((word, value, value), (word, (value,), value), (word, (value, value), value), (word, (value,) * 3, (value,) * 3)):
                    self.assertIn(sheet_holds(sheet), (False, True))
            self.assertIs(sheet_holds((value, case[0], ())), False)
        for sheet in sheets_of(*case):
            for value in odd_values():
                self.assertIs(sheet_holds((value,) + sheet[1:]), False)
                paper = sheet[2]
                papers = [value] + [paper[:at] + (value,) + paper[at + 1:] for at in range(len(paper))]
                for other in [(sheet[0], value, paper)] + [(sheet[0], sheet[1], told) for told in papers]:
                    if sheet_holds(other):
                        for fact in facts_of(other):
                            self.assertEqual(truth(fact[0], fact[1]), fact[2])

    def test_things_that_are_none(self):
        wrong = Schema((("a", "x", ("one", "b")),), ())
        for sheet in (("alive", wrong, ()), ("dead", wrong, ()), ("single", wrong, ((), ())), ("within", (wrong, wrong), ()), ("leads", (Turning((), ""), LISTS, LISTS), ()),
                      ("leads", (BARE, wrong, LISTS), ()), ("leads", (BARE, LISTS, wrong), ()), ("least", Table((), (), (), (), (0,)), ((), ())), ("growing", Turning([], "a"), ((), (), "a", "a")),
                      ("fits", (LISTS, "text"), ""), ("answer", (Ask(wrong, ()), ("x", ()), ()), ("a", ())), ("answer", (LISTS, ("x", ()), ()), ("a", ()))):
            self.assertIs(sheet_holds(sheet), False)
        self.assertTrue(sheet_holds(("none", Schema((), ()), ())) and sheet_holds(("least", Table((), (), (), (), ()), ((), ()))))
        self.assertEqual(typings_of(LISTS, ("none", ()), 1), ())


if __name__ == "__main__":
    unittest.main()
