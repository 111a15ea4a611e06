"""Point 8: places."""

import unittest

from tests.helping import GREAT, Case, nested, odd_values, random_node, seeded
from turnsfit.errors import InvalidNode, InvalidPlace, InvalidSize
from turnsfit.nodes import size_of
from turnsfit.places import at_place, need_place, node_places, place_at, place_number, places_of, replaced

NODE = ("list", ("one", ("item", ("x",)), ("item", ())))


class PlacesTest(Case):
    def test_example(self):
        self.assertEqual((places_of(NODE), at_place(NODE, (1, 0)), place_number(NODE, (2,))),
                         (((), (0,), (1,), (1, 0), (2,)), "x", 4))
        self.assertEqual(replaced(NODE, (1,), ""), ("list", ("one", "", ("item", ()))))

    def test_small(self):
        self.assertEqual([places_of(("a", ())), node_places(NODE)], [((),), ((), (1,), (2,))])
        self.assertEqual([at_place(NODE, ()), replaced(NODE, (), ("b", ()))], [NODE, ("b", ())])
        self.assertEqual(replaced(node=NODE, place=(1, 0), thing=("b", ())),
                         ("list", ("one", ("item", (("b", ()),)), ("item", ()))))
        self.assertIsNone(need_place(node=NODE, value=(1, 0)))

    def test_wrong_places(self):
        calls = (need_place, at_place, place_number, lambda node, place: replaced(node, place, 1))
        wrong = (([], -1), (None, -1), (0, -1), ("", -1), ((3,), 0), ((-1,), 0), ((True,), 0), ((False,), 0),
                 (("0",), 0), ((GREAT,), 0), ((0, 0), 1), ((1, 1), 1), ((1, 0, 0), 2), ((1, None, 9), 1), ((2, 0), 1))
        for place, at in wrong:
            for call in calls:
                self.fails(InvalidPlace, at, call, NODE, place)

    def test_wrong_things(self):
        self.fails(InvalidNode, 0, replaced, NODE, (), "text")
        self.fails(InvalidNode, 0, replaced, NODE, (0,), "a" * 17)
        self.fails(InvalidNode, 1, replaced, NODE, (0,), ("a", (None,)))
        self.fails(InvalidNode, 0, replaced, NODE, (), ["a", ()])

    def test_numbers(self):
        for number in (5, -1, GREAT, True, None, "0", (), [0]):
            self.fails(InvalidSize, "number", place_at, NODE, number)
        self.assertEqual([place_at(node=NODE, number=at) for at in range(5)], list(places_of(NODE)))

    def test_any_value(self):
        for value in odd_values():
            for call in (need_place, at_place, place_number):
                self.told_for_any_value(lambda value, call=call: call(NODE, value), InvalidPlace)
        self.told_for_any_value(lambda value: place_at(NODE, value), InvalidSize)
        self.told_for_any_value(lambda value: replaced(NODE, value, value), InvalidPlace, InvalidNode)
        self.told_for_any_value(lambda value: replaced(NODE, (1,), value), InvalidNode)

    def test_there_and_back(self):
        chance = seeded(3)
        for _ in range(60):
            node = random_node(chance, 3)
            places = places_of(node)
            self.assertEqual(list(places), sorted(places))
            self.assertEqual(len(places), size_of(node))
            self.assertEqual(node_places(node), tuple([place for place in places if at_place(node, place)[1:] and
                                                       not isinstance(at_place(node, place), str)]))
            for number, place in enumerate(places):
                self.assertEqual((place_number(node, place), place_at(node, number)), (number, place))
                other = replaced(node, place, ("new", ()))
                self.assertEqual(at_place(other, place), ("new", ()))
                self.assertEqual(replaced(other, place, at_place(node, place)), node)

    def test_deep(self):
        deep = nested("x", 30, lambda inner: ("a", (inner,)))
        self.assertEqual(places_of(deep)[-1], (0,) * 30)
        self.fails(InvalidPlace, 30, need_place, deep, (0,) * 31)
        deep = nested(("a", ()), 2000, lambda inner: ("a", (inner,)))
        self.assertEqual(size_of(replaced(deep, (0,) * 2000, ("b", ("",)))), 2002)


if __name__ == "__main__":
    unittest.main()
