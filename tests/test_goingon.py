"""Point 36: what goes on behind marks."""

import unittest

from tests.helping import Case, nested, seeded
from tests.test_schematext import random_schema
from tests.test_streaming import CLOSE, OPEN, PLAN, TEXT, told_by
from tests.test_tables import all_nodes
from turnsfit.fitting import fits
from turnsfit.goingon import first_bar, going_on, next_marks
from turnsfit.leastnodes import least_document
from turnsfit.marks import is_beginning, marks_of, need_marks, node_of
from turnsfit.nodes import size_of
from turnsfit.schemas import Schema, node_names
from turnsfit.schematext import read_schema, schema_text
from turnsfit.streaming import Reader


def word_behind(schema, marks):
    reader = Reader(schema)
    word = None
    for mark in marks:
        if word == "barred":
            return word
        word = reader.read(mark)
    return word


class GoingOnTest(Case):
    def test_example(self):
        marks = (("open", "d"), ("open", "h"), ("open", "w"), ("close",))
        self.assertEqual((next_marks(schema=PLAN, marks=marks), first_bar(PLAN, (("open", "d"), ("open", "p")))), (((), False, True), 1))

    def test_against_readers(self):
        chance = seeded(361)
        counts = {"barred": 0, "on": 0, "done": 0, None: 0}
        marks = (OPEN, ("open", "y"), TEXT, CLOSE)
        for _ in range(50):
            schema = random_schema(chance)
            waiting = [()]
            while waiting:
                row = waiting.pop()
                word = word_behind(schema, row)
                counts[word] += 1
                bars = [many for many in range(len(row)) if word_behind(schema, row[:many + 1]) == "barred"]
                self.assertEqual(first_bar(schema=schema, marks=row), bars[0] if bars else None)
                names = tuple([name for name in node_names(schema) if word_behind(schema, row + (("open", name),)) != "barred"])
                told = [word_behind(schema, row + (mark,)) != "barred" for mark in (("text", "x"), CLOSE)]
                self.assertEqual(next_marks(schema=schema, marks=row), (names,) + tuple(told))
                self.leads_on(schema, row, word)
                if len(row) < 4 and (word != "barred" or len(row) < 2):
                    waiting.extend([row + (mark,) for mark in marks if is_beginning(row + (mark,))])
        self.assertTrue(min(counts.values()) > 20, counts)

    def leads_on(self, schema, row, word):
        found = going_on(schema=schema, marks=row)
        if row == ():
            self.assertIs(found is None, least_document(schema) is None)
        else:
            self.assertIs(found is None, word == "barred", (schema_text(schema), row))
        if found is not None:
            self.assertIsInstance(found, tuple)
            self.assertIsNone(need_marks(row + found))
            self.assertTrue(fits(schema, node_of(row + found)))

    def test_on_just_if_something_goes_on(self):
        """Readers that are not barred are led on by going_on: so what they tell is all right either way."""
        chance = seeded(362)
        nodes = all_nodes(4, ("x", "y"))
        for _ in range(30):
            schema = random_schema(chance)
            lots, _ = told_by(schema, nodes)
            for marks in lots:
                self.leads_on(schema, marks, word_behind(schema, marks))
                self.assertIsNotNone(going_on(schema, list(marks)) if marks else ())

    def test_ahead_of_all_and_behind_a_whole_document(self):
        schema = read_schema("a b, a x #, b y -, c z -")
        self.assertEqual((first_bar(schema, ()), next_marks(schema, ()), node_of(going_on(schema, ()))), (None, (("x", "y"), False, False),
                                                                                                         ("y", ())))
        whole = marks_of(("x", ("q",)))
        self.assertEqual((first_bar(schema, whole), next_marks(schema, whole), going_on(schema, whole)), (None, ((), False, False), ()))
        for none in (Schema((), ()), read_schema("-, a x -"), read_schema("a, a x a, b y -")):
            self.assertEqual((first_bar(none, ()), next_marks(none, ()), going_on(none, ())), (None, ((), False, False), None))
            self.assertEqual((first_bar(none, (OPEN,)), next_marks(none, (OPEN,)), going_on(none, (OPEN,))), (0, ((), False, False), None))
        barred = (OPEN, TEXT, TEXT, CLOSE)
        self.assertEqual((first_bar(schema, barred), next_marks(schema, barred), going_on(schema, barred)), (2, ((), False, False), None))

    def test_types_that_go_together(self):
        """The least type of the inner node does not go with the least one of the outer one's."""
        schema = read_schema("a b, a x (d # #), b x (c e), c y #, d y [# (# #)], e z -")
        for row in ((OPEN,), (OPEN, ("open", "y")), (OPEN, ("open", "y"), TEXT), (OPEN, ("open", "y"), TEXT, TEXT),
                    (OPEN, ("open", "y"), TEXT, TEXT, CLOSE), (OPEN, ("open", "y"), TEXT, CLOSE), (OPEN, ("open", "y"), TEXT, CLOSE, TEXT)):
            self.leads_on(schema, row, "on")

    def test_great(self):
        dense = " ([" + " ".join("abcdef") + "]* # [" + " ".join("abcde") + "]+)"
        schema = read_schema("f, " + ", ".join([kind + " x" + dense for kind in "abcde"]) + ", f x #*")
        self.assertIsNone(going_on(schema, (OPEN,) * 30))
        schema = read_schema("a, " + ", ".join([kind + " x" + dense for kind in "abcd"]) + ", e x -, f x #*")
        for many in (1, 10, 30):
            self.leads_on(schema, (OPEN,) * many, "on")
        deep = nested(("x", ("", ("x", ()))), 28, lambda inner: ("x", (inner, "", ("x", ()))))
        marks = marks_of(deep)
        for many in range(0, len(marks), 7):
            self.leads_on(schema, marks[:many], "on")
        chain = read_schema("a, a x (b b b), b y (c c c c), c x [(d d d) (# # # # # # # # # # # #)], d y (# # # # #), e x -, f x -")
        self.assertEqual(size_of(node_of((OPEN,) + going_on(chain, (OPEN,)))), size_of(least_document(chain)))


if __name__ == "__main__":
    unittest.main()
