"""Points 34 and 35: readers."""

import unittest

from tests.helping import Case, nested, odd_values, seeded
from tests.test_fitting import all_typings
from tests.test_schematext import random_schema
from tests.test_tables import all_nodes
from turnsfit.errors import InvalidSize, Refused
from turnsfit.marks import is_beginning, marks_of
from turnsfit.schemas import Schema
from turnsfit.schematext import read_schema, schema_text
from turnsfit.streaming import Reader

PLAN = read_schema("doc, doc d (head par*), head h word, note w #, par p note*, word w #?")
OPEN, TEXT, CLOSE = ("open", "x"), ("text", ""), ("close",)


def open_types(node, giving, many):
    """The types that a typing gives the nodes that are open behind so many marks."""
    rows = []
    waiting = [("thing", node, giving)]
    while waiting and many > 0:
        word, thing, part = waiting.pop()
        many -= 1
        if word == "close":
            rows.pop()
        elif not isinstance(thing, str):
            rows.append(part[0])
            inner = [("thing", one, other) for one, other in zip(thing[1], part[1])]
            waiting.extend([("close", None, None)] + inner[::-1])
    return tuple(rows)


def told_by(schema, nodes):
    """For each beginning of the marks of some documents that fit: the types of the nodes open, and which are whole."""
    lots, whole = {}, set()
    for node in nodes:
        typings = all_typings(schema, node)
        marks = marks_of(node)
        if typings:
            whole.add(marks)
        for giving in typings:
            for many in range(len(marks) + 1):
                kinds = open_types(node, giving, many)
                known = lots.setdefault(marks[:many], [set() for _ in kinds])
                for lot, kind in zip(known, kinds):
                    lot.add(kind)
    return lots, whole


def behind(schema, marks):
    reader = Reader(schema)
    words = [reader.read(mark) for mark in marks]
    return reader, words[-1] if words else None


class StreamingTest(Case):
    def test_example(self):
        reader = Reader(schema=PLAN)
        self.assertEqual((reader.read(("open", "d")), reader.read(mark=("open", "h")), reader.read(("open", "w")),
                          reader.types_now()), ("on", "on", "on", (("doc",), ("head",), ("word",))))
        self.assertIs(reader.schema, PLAN)

    def test_against_all_documents(self):
        """All marks up to a length: barred just where no document that fits begins so."""
        chance = seeded(341)
        nodes = all_nodes(5, ("x", "y"))
        marks = (OPEN, ("open", "y"), TEXT, CLOSE)
        for at in range(40):
            schema = random_schema(chance)
            lots, whole = told_by(schema, nodes if at < 6 else nodes[:250])
            waiting = [()]
            while waiting:
                row = waiting.pop()
                reader, word = behind(schema, row)
                if row in lots:
                    self.assertEqual(word, None if not row else "done" if row in whole else "on", (schema_text(schema), row))
                    for lot, told in zip(lots[row], reader.types_now()):
                        self.assertTrue(lot <= set(told))
                elif word == "done":
                    self.fail("none of the small documents is whole here")
                if word not in ("barred", "done") and len(row) < 5:
                    waiting.extend([row + (mark,) for mark in marks])
                if word == "barred":
                    self.assertNotIn(row, lots)

    def test_just_what_goes_on(self):
        """Where all documents are small, all that is told comes of them."""
        for text in ("a, a x (b c), b y [- #], c y [# (#)]", "a b, a x [c (c d)], b x d, c y #?, d y (e? #), e x -",
                     "a, a x [(b d) (c e)], b y #, c y [# -], d y #, e y -", "a, a x b, b y [c (c d)], c x [z -], d x -, z x z",
                     "a b c, a x (c), b x ([d -] c), c y -, d y #", "-, a x -", "a, a x a"):
            schema = read_schema(text)
            nodes = all_nodes(6, ("x", "y"))
            lots, whole = told_by(schema, nodes)
            waiting = [()]
            while waiting:
                row = waiting.pop()
                reader, word = behind(schema, row)
                if row == () or row in lots:
                    self.assertEqual(word, None if not row else "done" if row in whole else "on", (text, row))
                    self.assertEqual(reader.types_now(), tuple([tuple(sorted(lot)) for lot in lots.get(row, ())]), (text, row))
                    waiting.extend([row + (mark,) for mark in (OPEN, ("open", "y"), ("open", "z"), TEXT, CLOSE)])
                    continue
                if word == "barred":
                    self.fails(Refused, "barred", reader.types_now)
                self.assertEqual(word, "barred", (text, row))

    def test_ahead_and_behind(self):
        reader = Reader(read_schema("a, a x #?"))
        self.assertEqual(reader.types_now(), ())
        self.assertEqual([reader.read(mark) for mark in (OPEN, CLOSE)], ["on", "done"])
        self.assertEqual(reader.types_now(), ())
        for mark in (OPEN, TEXT, CLOSE):
            other = reader.twin()
            self.assertEqual(other.read(mark), "barred")
            self.fails(Refused, "barred", other.types_now)
        for mark in (TEXT, CLOSE, ("open", "y")):
            self.assertEqual(Reader(read_schema("a, a x #?")).read(mark), "barred")
        for schema in (Schema((), ()), read_schema("-, a x -"), read_schema("a, a x a, b x -")):
            self.assertEqual(Reader(schema).types_now(), ())
            self.assertEqual(Reader(schema).read(OPEN), "barred")

    def test_barred_is_told_first(self):
        reader = Reader(PLAN)
        self.assertEqual(reader.read(OPEN), "barred")
        for mark in (OPEN, None, ("open",)):
            self.fails(Refused, "barred", reader.read, mark)
        self.fails(Refused, "barred", reader.types_now)
        self.fails(Refused, "barred", reader.twin().types_now)
        self.fails(Refused, "barred", reader.twin().read, OPEN)

    def test_any_value(self):
        reader = Reader(PLAN)
        reader.read(("open", "d"))
        for value in odd_values() + [("open", ""), ("open", "A"), ("text", "A"), ("text", 1), ("text", "a" * 17), ("close", "x"),
                                     ["open", "x"], ["close"], (True,), ("open", "x", "y")]:
            if is_beginning((("open", "a"), value)):
                self.assertEqual(reader.twin().read(value), "barred")
            else:
                self.fails(InvalidSize, "mark", reader.read, value)
        self.assertEqual(reader.types_now(), (("doc",),))

    def test_twins_go_on_alone(self):
        reader = Reader(PLAN)
        for mark in (("open", "d"), ("open", "h")):
            reader.read(mark)
        other = reader.twin()
        third = other.twin()
        self.assertIs(other.schema, PLAN)
        self.assertEqual(reader.read(("open", "w")), "on")
        self.assertEqual(other.types_now(), (("doc",), ("head",)))
        self.assertEqual(other.read(CLOSE), "barred")
        self.assertEqual((reader.types_now(), third.types_now()), ((("doc",), ("head",), ("word",)), (("doc",), ("head",))))
        self.assertEqual([third.read(mark) for mark in (("open", "w"), CLOSE, CLOSE, CLOSE)], ["on", "on", "on", "done"])
        self.assertEqual(reader.types_now(), (("doc",), ("head",), ("word",)))
        self.assertIsInstance(other, Reader)
        with self.assertRaises(TypeError):
            iter(reader)
        with self.assertRaises(TypeError):
            len(reader)

    def test_great(self):
        dense = " ([" + " ".join("abcdef") + "]* #? [" + " ".join("abcdef") + "]*)"
        schema = read_schema("a, " + ", ".join([kind + " x" + dense for kind in "abcdef"]))
        deep = nested(("x", ("",)), 28, lambda inner: ("x", (inner, ("x", ()), ("x", (("x", ()),) * 4))))
        marks = marks_of(deep)
        reader = Reader(schema)
        self.assertEqual([reader.read(mark) for mark in marks[:-1]][-1], "on")
        self.assertEqual((len(reader.types_now()), reader.read(marks[-1])), (1, "done"))
        reader = Reader(schema)
        self.assertEqual({reader.read(OPEN) for _ in range(400)}, {"on"})
        self.assertEqual(len(reader.types_now()), 400)


if __name__ == "__main__":
    unittest.main()
