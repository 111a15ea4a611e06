"""Point 33: marks."""

import unittest

from tests.helping import GREAT, Case, nested, odd_values, random_node, seeded
from turnsfit.errors import InvalidNode
from turnsfit.marks import is_beginning, marks_of, need_marks, node_of, place_behind
from turnsfit.nodes import size_of
from turnsfit.places import places_of

A, B, X, CLOSE = (("open", "a"), ("open", "b"), ("text", "x"), ("close",))


class MarksTest(Case):
    def test_marks(self):
        node = ("a", ("x", ("b", ()), ""))
        marks = (A, X, B, CLOSE, ("text", ""), CLOSE)
        self.assertEqual([marks_of(node=node), node_of(marks=marks), node_of(list(marks))], [marks, node, node])
        self.assertEqual([marks_of(("a", ())), node_of((A, CLOSE))], [(A, CLOSE), ("a", ())])
        self.assertIsNone(need_marks(value=marks))

    def test_wrong_marks(self):
        for value in (None, [A, CLOSE], "a", 1, True):
            self.fails(InvalidNode, -1, need_marks, value)
            self.assertIs(is_beginning(value), False)
        wrong = (((), 0), ((A,), 1), ((A, B, CLOSE), 3), ((A, X), 2), ((A, B, X, CLOSE), 4), ((X,), 0), ((CLOSE,), 0),
                 ((A, CLOSE, X), 2), ((A, CLOSE, A), 2), ((A, CLOSE, CLOSE), 2), ((A, CLOSE, None), 2), ((None,), 0),
                 ((A, ("open",), CLOSE), 1), ((A, ("open", "A")), 1), ((A, ("open", "b", "c")), 1), ((A, ("text", "a" * 17)), 1),
                 ((A, ("text",)), 1), ((A, ["text", "x"]), 1), ((A, ("close", "a")), 1), ((A, "close"), 1), ((A, ()), 1),
                 ((A, ("name", "a")), 1), ((A, ("text", 1)), 1), ((["open", "a"],), 0), ((A, B, CLOSE, CLOSE, GREAT, 1), 4))
        for value, at in wrong:
            self.fails(InvalidNode, at, need_marks, value)
            self.assertIs(is_beginning(value), value in ((), (A,), (A, B, CLOSE), (A, X), (A, B, X, CLOSE)), value)

    def test_any_value(self):
        self.told_for_any_value(need_marks, InvalidNode)
        for value in odd_values():
            self.told_for_any_value(lambda _, value=value: need_marks((A, value, CLOSE)), InvalidNode)
            self.assertIs(is_beginning(value), value == ())
            self.assertIs(is_beginning((A, value)), value in (CLOSE, ("text", ""), ("open", "a")) and value is not True)

    def test_beginnings(self):
        chance = seeded(81)
        for _ in range(80):
            node = random_node(chance, 3)
            marks = marks_of(node)
            places = places_of(node)
            self.assertIsNone(need_marks(marks))
            self.assertEqual(node_of(marks), node)
            self.assertEqual(len([mark for mark in marks if mark != CLOSE]), size_of(node))
            for many in range(len(marks) + 1):
                begun = marks[:many]
                self.assertIs(is_beginning(begun), True)
                if many not in (0, len(marks)):
                    self.fails(InvalidNode, many, need_marks, begun)
                    # The place at which the next thing comes: it can be read off the whole.
                    closing = sum([1 for mark in marks[:many] if mark != CLOSE])
                    if marks[many] != CLOSE:
                        self.assertEqual(place_behind(begun), places[closing])

    def test_places(self):
        for marks, place in (((), ()), ((A,), (0,)), ((A, X), (1,)), ((A, B), (0, 0)), ((A, B, X, X), (0, 2)),
                             ((A, B, CLOSE), (1,)), ((A, X, B, CLOSE, X), (3,)), ((A, CLOSE), None)):
            self.assertEqual(place_behind(marks=marks), place)

    def test_great(self):
        deep = nested(("a", ()), 29, lambda inner: ("a", ("", inner)))
        self.assertEqual(node_of(marks_of(deep)), deep)
        self.assertEqual(place_behind(marks_of(deep)[:59]), (1,) * 29 + (0,))
        wide = (A,) + (X,) * 498 + (CLOSE,)
        need_marks(wide)
        self.assertEqual(marks_of(node_of(wide)), wide)
        marks = (A,) * 3000 + (CLOSE,) * 3000
        need_marks(marks)
        self.assertEqual(marks_of(node_of(marks)), marks)


if __name__ == "__main__":
    unittest.main()
