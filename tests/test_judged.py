"""Points 56 to 59: verdicts on turnings."""

import unittest

from tests.helping import Case, nested, odd_values, seeded
from tests.test_backwards import is_led
from tests.test_bearings import BARE, ROWS, random_turning
from tests.test_joined import EMPTY_ONES, lively_schema
from tests.test_schematext import random_schema
from tests.test_tables import all_nodes
from turnsfit.bearings import bearing_of, both_bearings, goal_table, no_bearing, node_bearing, text_bearing
from turnsfit.composed import keeping
from turnsfit.fitting import fits
from turnsfit.joined import is_within
from turnsfit.judged import Breaks, Leads, check_verdict, verdict
from turnsfit.leasttables import least_table
from turnsfit.nodes import all_things, least_of, size_of
from turnsfit.places import at_place, places_of, replaced
from turnsfit.refusals import bar
from turnsfit.schemas import Schema, node_names
from turnsfit.schematext import read_schema
from turnsfit.tables import state_of
from turnsfit.turnings import made_document, origins
from turnsfit.turningtext import read_turning

LISTS = Schema((("i", "item", ("maybe", ("text",))), ("l", "list", ("star", ("one", "i")))), ("l",))
SOME = Schema((("i", "item", ("maybe", ("text",))), ("l", "list", ("some", ("one", "i")))), ("l",))
NODES = all_nodes(5, ("x", "y"))
TURNINGS = [read_turning(text) for text in (
    "a, a # *, a x x(!a), a y y(!a)", "a, a # *, a x y(!a), a y x(!a)", "a, a x x(!a), a y x(!b), b # *, b x !b",
    "a, a # *, a x x(!a !a)", "a, a # *, a y y(!a)", "a, a # \"s\", a x x(y(!a))", "a, a x x(!a) y(), a y y(!b), b x -", "a")]


def plain_break(turning, other, node):
    """The place where a document breaks that is not led, straight from what it is."""
    made = made_document(turning, node)
    if made is None:
        return ()
    return origins(turning, node)[places_of(made).index(bar(other, made)[0])]


def plain_marks(turning, first, goal, lost):
    """All marks, by rounds over all of them."""
    text = text_bearing(turning, goal)
    found = {(name, begin, no_bearing(turning, goal)) for name, begin in zip(first.names, first.begins)}
    while True:
        found = {mark for mark in found if mark[1] not in lost}
        more = set(found)
        for name, state, bearing in found:
            more.add((name, first.texts[state], both_bearings(bearing, text)))
            for child, other, inner in found:
                after = both_bearings(bearing, node_bearing(turning, goal, child, inner))
                more.add((name, first.steps[state][other], after))
        more = {mark for mark in more if mark[1] not in lost}
        if more == found:
            return found
        found = more


def random_case(chance):
    turning = chance.choice(TURNINGS) if chance.random() < .7 else random_turning(chance)
    return turning, lively_schema(chance, 3), random_schema(chance)


class JudgedTest(Case):
    def test_example(self):
        self.assertTrue(verdict(turning=BARE, schema=LISTS, other=ROWS) == Breaks(("list", ()), ()))
        found = verdict(BARE, SOME, ROWS)
        self.assertEqual((len(found.marks), check_verdict(turning=BARE, schema=SOME, other=ROWS, value=found)), (4, True))

    def test_classes(self):
        one, other = Leads(marks=[1]), Breaks(node="a", place=None)
        self.assertEqual((one.marks, other.node, other.place), ([1], "a", None))
        self.assertTrue(one == Leads([1]) and other == Breaks("a", None))
        for wrong in (Leads((1,)), Leads(None), Breaks([1], None), [1], None):
            self.assertTrue(one != wrong)
        for wrong in (Breaks("b", None), Breaks("a", ()), Leads("a"), ("a", None)):
            self.assertTrue(other != wrong)

    def test_against_all_small_documents(self):
        """Either Leads or Breaks, never both: the least document that is not led, and its place."""
        chance = seeded(571)
        told = [0, 0]
        for _ in range(160):
            turning, schema, other = random_case(chance)
            if chance.random() < .4:
                turning, other = TURNINGS[0], schema
            found = verdict(turning, schema, other)
            amiss = [node for node in NODES if fits(schema, node) and not is_led(turning, other, node)]
            self.assertIs(check_verdict(turning, schema, other, found), True)
            told[isinstance(found, Leads)] += 1
            if isinstance(found, Leads):
                self.assertEqual(amiss, [])
                continue
            if size_of(found.node) <= 5:
                self.assertEqual(found.node, least_of(amiss))
            else:
                self.assertEqual(amiss, [])
            self.assertTrue(fits(schema, found.node) and not is_led(turning, other, found.node))
            self.assertEqual(found.place, plain_break(turning, other, found.node))
        self.assertTrue(min(told) > 30, told)

    def test_marks(self):
        """The marks are those of nodes: by plain rounds, and all of small nodes are among them."""
        chance = seeded(572)
        many = 0
        while many < 25:
            turning, schema, other = random_case(chance)
            found = verdict(turning, schema, other)
            if isinstance(found, Breaks) or len(found.marks) > 25:
                continue
            many += 1
            first, goal = least_table(schema), goal_table(turning, other)
            lost = [state for state in range(len(first.texts)) if state not in first.ends and
                    set(first.texts[state:state + 1] + first.steps[state] + tuple([step[state] for step in first.steps])) == {state}]
            marks = {(node[0], state_of(first, node), bearing_of(turning, goal, node[1])) for node in NODES
                     if state_of(first, node) is not None and state_of(first, node) not in lost}
            self.assertTrue(marks <= set(found.marks))
            self.assertEqual(found.marks, tuple(sorted(plain_marks(turning, first, goal, lost))))

    def test_papers_changed(self):
        chance = seeded(581)
        many = 0
        while many < 15:
            turning, schema, other = random_case(chance)
            if chance.random() < .3:
                turning, other = TURNINGS[0], schema
            found = verdict(turning, schema, other)
            if isinstance(found, Leads):
                for at in chance.sample(range(len(found.marks)), min(len(found.marks), 5)):
                    less = found.marks[:at] + found.marks[at + 1:]
                    self.assertFalse(check_verdict(turning, schema, other, Leads(less)), "each mark is met")
                self.assertFalse(check_verdict(turning, schema, other, Leads(list(found.marks))))
                self.assertFalse(check_verdict(turning, schema, other, found.marks))
                if len(found.marks) > 1:
                    many += 1
                    self.assertFalse(check_verdict(turning, schema, other, Leads(found.marks[::-1])))
                    self.assertFalse(check_verdict(turning, schema, other, Leads(found.marks + found.marks[-1:])))
            else:
                self.assertFalse(check_verdict(turning, schema, other, Leads(())) and node_names(schema))
                for node in chance.sample(NODES, 8):
                    amiss = fits(schema, node) and not is_led(turning, other, node)
                    place = plain_break(turning, other, node) if amiss else ()
                    for each in places_of(node):
                        self.assertIs(check_verdict(turning, schema, other, Breaks(node, each)), amiss and each == place)

    def test_marks_that_no_node_has(self):
        """A mark more, with those that are then behind it and the others: taken if none of them is led amiss."""
        turning = keeping(("item", "list"))
        found = verdict(turning, SOME, LISTS)
        goal = goal_table(turning, LISTS)
        size = len(goal.texts)
        strange = tuple([(state + 1) - (state + 1) // size * size for state in range(size)]) + (size + 2,) * 3
        marks = {mark: True for mark in found.marks}
        marks["item", found.marks[0][1], (strange,)] = True
        self.assertFalse(check_verdict(turning, SOME, LISTS, Leads(tuple(sorted(marks)))))
        told = verdict(read_turning("a"), SOME, LISTS)
        self.assertIsInstance(told, Breaks)
        idle, plain = read_turning("a, b x y()"), read_schema("x, x x -")
        marks = verdict(idle, Schema((("x", "x", ("one", "x")),), ("x",)), plain).marks
        self.assertEqual(marks, ())
        kept = read_turning("a, a x x(), b x x()")
        told = verdict(kept, plain, plain)
        mark = told.marks[0]
        size = len(goal_table(kept, plain).texts)
        other = tuple([(0,) * size + (size + 2,) * 3] * 2)
        self.assertTrue(check_verdict(kept, plain, plain, told))
        self.assertTrue(check_verdict(kept, plain, plain, Leads(tuple(sorted([mark, (mark[0], mark[1], other)])))))

    def test_any_value(self):
        found = verdict(BARE, SOME, ROWS)
        mark = found.marks[0]
        for value in odd_values():
            for paper in (value, Leads(value), Leads((value,)), Leads(found.marks + (value,)), Leads((value,) + found.marks[1:]),
                          Leads(((value,) + mark[1:],) + found.marks[1:]), Leads(((mark[0], value, mark[2]),) + found.marks[1:]),
                          Leads(((mark[0], mark[1], value),) + found.marks[1:]), Leads(((mark[0], mark[1], (value,)),) + found.marks[1:]),
                          Leads(((mark[0], mark[1], (mark[2][0][:-1] + (value,),)),) + found.marks[1:]),
                          Breaks(value, ()), Breaks(("list", (("item", ()),)), value)):
                told = check_verdict(BARE, SOME, ROWS, paper)
                self.assertIs(told, paper == found and not isinstance(value, bool), (value, paper))
        for value in odd_values():
            self.assertIs(check_verdict(BARE, LISTS, ROWS, Breaks(("list", ()), value)), value == () and isinstance(value, tuple))
            self.assertIs(check_verdict(BARE, LISTS, ROWS, Breaks(value, ())), False)
        for node in (("list", ("x",)), ("table", ()), ("list", ()), ("list", (("item", ()),))):
            self.assertIs(check_verdict(BARE, LISTS, ROWS, Breaks(node, ())), node == ("list", ()))
        self.assertFalse(check_verdict(BARE, LISTS, ROWS, Breaks(["list", ()], ())))

    def test_bools_are_no_numbers(self):
        turning, schema = keeping(("x",)), read_schema("x, x x x*")
        found = verdict(turning, schema, schema)
        name, state, bearing = found.marks[0]
        self.assertEqual((state, bearing), (0, ((0, 1, 2, 3, 4),)))
        self.assertFalse(check_verdict(turning, schema, schema, Leads(((name, False, bearing),) + found.marks[1:])))
        self.assertFalse(check_verdict(turning, schema, schema, Leads(((name, state, ((False, 1, 2, 3, 4),)),) + found.marks[1:])))
        deep = ("x", (("x", (("x", (("x", ("",)),)),)),))
        wide = read_schema("x, x x [x # x]*")
        self.assertTrue(check_verdict(turning, wide, schema, Breaks(deep, (0, 0, 0))))
        self.assertFalse(check_verdict(turning, wide, schema, Breaks(deep, (0, False, 0))))

    def test_schemas_of_which_no_document_fits(self):
        for none in EMPTY_ONES:
            found = verdict(BARE, none, ROWS)
            self.assertIsInstance(found, Leads)
            self.assertTrue(check_verdict(BARE, none, ROWS, found))
            self.assertTrue(verdict(BARE, LISTS, none) == Breaks(("list", ()), ()))
        self.assertTrue(verdict(BARE, Schema((), ()), Schema((), ())) == Leads(()))
        self.assertTrue(verdict(BARE, read_schema("a, a x a"), ROWS) == Leads(()))

    def test_turnings_that_make_nothing_or_more(self):
        for text in ("a", "a, a list -", 'a, a list "x"', "a, a list table(row()) row()", 'a, a list table(row()) ""', "a, a item table(row())"):
            self.assertTrue(verdict(read_turning(text), LISTS, ROWS) == Breaks(("list", ()), ()), text)
        self.assertIsInstance(verdict(read_turning("a, a list table(row())"), LISTS, ROWS), Leads)
        self.assertTrue(verdict(read_turning("a, a list table(!b), b item row(!c), c # *"), SOME, ROWS)
                        == Breaks(("list", (("item", ("",)),)), (0,)))
        # What is told is the place of the thing whose rule made the node, not that of what is wrong in it.
        self.assertTrue(verdict(read_turning("a, a list table(!b), b item !c, c # row(x())"), SOME, ROWS).place == ())
        self.assertTrue(verdict(read_turning("a, a list table(row() !b), b item !c, c # row(x())"), SOME, ROWS)
                        == Breaks(("list", (("item", ("",)),)), (0, 0)))

    def test_keeping(self):
        """If all names are kept, a schema is led into another one exactly if each of its documents fits it."""
        chance = seeded(591)
        for _ in range(80):
            one, other = lively_schema(chance, 3), random_schema(chance)
            found = verdict(keeping(node_names(one)), one, other)
            least = is_within(one, other)
            self.assertEqual(None if isinstance(found, Leads) else found.node, least)
            if least is not None:
                self.assertEqual(found.place, bar(other, least)[0])

    def test_great(self):
        turning = read_turning("m, m # *, m x x(!m !n) !n, n # x(), n x y(!m)")
        one = read_schema("a b, a x ([a b] #?)*, b x (a b? #), c x #, d x (c a)")
        other = read_schema("a b, a x [a b #]*, b y [a b #]*")
        found = verdict(turning, one, other)
        self.assertTrue(check_verdict(turning, one, other, found))
        self.assertEqual(no_bearing(turning, goal_table(turning, other))[0][0], 0)
        many = 64
        long = Schema((("a", "x", ("row", (("text",),) * 5)), ("b", "x", ("some", ("one", "a"))), ("c", "x", ("row", (("one", "b"),) * 6))), ("c",))
        twice = read_turning("a, a # *, a x x(!a !a)")
        found = verdict(twice, long, read_schema("x, x x [x #]*"))
        self.assertTrue(isinstance(found, Leads) and check_verdict(twice, long, read_schema("x, x x [x #]*"), found))
        strict = Schema((("a", "x", ("star", ("text",))), ("b", "x", ("star", ("either", (("one", "a"), ("one", "b")))))), ("b",))
        node = nested(("x", ("", "")), 3, lambda inner: ("x", (inner,)))
        self.assertEqual(len(all_things((at_place(replaced(node, (0, 0, 0, 0), ("x", ())), ()),))) < many, True)
        self.assertIsInstance(verdict(twice, long, strict), Leads)


if __name__ == "__main__":
    unittest.main()
