"""Points 6 and 7: documents, and their order."""

import functools
import itertools
import unittest

from tests.helping import GREAT, Case, nested, odd_values, random_node, seeded
from turnsfit.errors import InvalidNode
from turnsfit.nodes import (compared, depth_of, forest_size, is_forest, is_node, least_of, names_of, need_forest,
                            need_node, need_thing, shape_of, size_of)

NODE = ("list", ("one", ("item", ("x",)), ("item", ())))


def plainly_compared(one, other):
    """The order, straight from point 7."""
    if isinstance(one, str) or isinstance(other, str):
        if isinstance(one, str) and isinstance(other, str):
            return (one > other) - (one < other)
        return -1 if isinstance(one, str) else 1
    if one[0] != other[0]:
        return -1 if one[0] < other[0] else 1
    for mine, yours in zip(one[1], other[1]):
        found = plainly_compared(mine, yours)
        if found:
            return found
    return (len(one[1]) > len(other[1])) - (len(one[1]) < len(other[1]))


class NodesTest(Case):
    def test_example(self):
        self.assertEqual((size_of(NODE), depth_of(NODE), names_of(NODE), shape_of(NODE)),
                         (5, 2, ("item", "list"), ("list", ("", ("item", ("",)), ("item", ())))))
        self.assertEqual((compared(("a", ("b",)), ("a", (("a", ()),))), least_of((("b", ()), ("a", ("", "")), ("c", ())))),
                         (-1, ("b", ())))

    def test_right_ones(self):
        for thing in (NODE, ("a", ()), ("abcdefgh", ("a" * 16, ""))):
            self.assertIsNone(need_node(thing))
            self.assertIsNone(need_thing(value=thing))
            self.assertIs(is_node(thing), True)
        self.assertIsNone(need_thing(""))
        self.assertIsNone(need_thing("a" * 16))
        for forest in ((), ("",), (NODE, "x", NODE)):
            self.assertIsNone(need_forest(forest))
            self.assertIs(is_forest(forest), True)

    def test_wrong_nodes(self):
        for value in ("a", "", 1, None, True, ["a", ()], ("a",), ("a", (), ()), ("a", []), ("", ()), ("A", ()), (1, ()),
                      ("abcdefghi", ()), ("a", "b"), ((), ()), ()):
            self.fails(InvalidNode, 0, need_node, value)
            self.assertIs(is_node(value), False)
        self.fails(InvalidNode, 1, need_node, ("a", (1, 2)))
        self.fails(InvalidNode, 1, need_node, ("a", (True,)))
        self.fails(InvalidNode, 1, need_node, ("a", ("a" * 17,)))
        self.fails(InvalidNode, 1, need_node, ("a", (["b", ()],)))
        self.fails(InvalidNode, 4, need_node, ("a", ("", ("b", ("x",)), ("c", []), ("d", (1,)))))
        self.fails(InvalidNode, 3, need_node, ("a", (("b", ("x", GREAT)), ("c", []))))

    def test_wrong_things_and_forests(self):
        self.fails(InvalidNode, 0, need_thing, "a" * 17)
        self.fails(InvalidNode, 0, need_thing, ["a", ()])
        self.fails(InvalidNode, 1, need_thing, ("a", (None,)))
        for value in ([], "", None, 5, ["a"]):
            self.fails(InvalidNode, -1, need_forest, value)
            self.assertIs(is_forest(value), False)
        self.fails(InvalidNode, 0, need_forest, (1,))
        self.fails(InvalidNode, 0, need_forest, ("a", ())[1:])
        self.fails(InvalidNode, 3, need_forest, ("a", ("b", ("x",)), ("c",)))

    def test_any_value(self):
        for function in (need_node, need_thing, need_forest, is_node, is_forest):
            self.told_for_any_value(function, InvalidNode)
        for value in odd_values():
            self.assertIn(is_node(value), (True, False))
            self.assertEqual(is_forest((value,)), is_node(value) or value == "" or isinstance(value, str)
                             and len(value) <= 16 and set(value) <= set("abcdefghijklmnopqrstuvwxyz0123456789 "))

    def test_sizes(self):
        self.assertEqual([size_of("x"), size_of(("a", ())), size_of(("a", ("", "")))], [1, 1, 3])
        self.assertEqual([forest_size(()), forest_size((NODE, "x"))], [0, 6])
        self.assertEqual([depth_of(""), depth_of(("a", ())), depth_of(("a", ("",))), depth_of(("a", (("b", ()),)))],
                         [0, 1, 1, 2])
        self.assertEqual([names_of("x"), names_of(("b", (("a", ()), ("b", ()))))], [(), ("a", "b")])
        self.assertEqual([shape_of("x"), shape_of(("a", ("b", ("c", ("1",)))))], ["", ("a", ("", ("c", ("",))))])

    def test_order(self):
        things = ["", "a", "b", "ab", " ", "1", ("a", ()), ("b", ()), ("a", ("",)), ("a", ("a",)), ("a", ("", "")),
                  ("a", (("a", ()),)), ("a", (("a", ()), "")), ("a", ("", ("a", ()))), ("ab", ()), ("a", (("a", ("",)),))]
        chance = seeded(7)
        things += [random_node(chance, 2) for _ in range(30)]
        for one, other in itertools.product(things, things):
            self.assertEqual(compared(one, other), plainly_compared(one, other), (one, other))
        for thing in things:
            several = [chance.choice(things) for _ in range(5)]
            smallest = [thing for thing in several if size_of(thing) == min(map(size_of, several))]
            least = min(smallest, key=functools.cmp_to_key(plainly_compared))
            self.assertEqual([least_of(several), least_of(things=tuple(several))], [least, least])

    def test_great_and_deep(self):
        wide = ("a", ("x",) * 99)
        self.assertEqual([size_of(wide), depth_of(wide)], [100, 1])
        deep = nested("x", 3000, lambda inner: ("a", (inner,)))
        need_node(deep)
        self.assertEqual([size_of(deep), depth_of(deep), names_of(deep)], [3001, 3000, ("a",)])
        self.assertEqual(compared(deep, deep[1][0]), 1)
        self.assertEqual(size_of(shape_of(deep)), 3001)
        self.fails(InvalidNode, 80, need_node, nested([], 80, lambda inner: ("a", (inner,))))


if __name__ == "__main__":
    unittest.main()
