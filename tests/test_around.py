"""Point 48: what is made around a place."""

import unittest

from tests.helping import Case, nested, odd_values, random_forest, random_node, seeded
from tests.test_turnings import NODE, TURNING, random_turning
from turnsfit.around import parts_around, said_parts
from turnsfit.errors import InvalidPlace
from turnsfit.places import places_of, replaced
from turnsfit.turnings import Turning, goes_of, made_by, need_turning, turned
from turnsfit.turningtext import read_turning


class AroundTest(Case):
    def test_example(self):
        self.assertEqual(parts_around(TURNING, NODE, (1, 1)),
                         (("node", "list", (("node", "item", (("say", "x"), ("go", "a"))),)),))

    def test_small(self):
        self.assertEqual(parts_around(turning=TURNING, node=NODE, place=()), (("go", "a"),))
        self.assertEqual(parts_around(TURNING, NODE, (0, 0)), (("node", "list", (
            ("go", "b"), ("node", "item", (("say", "x"), ("node", "list", ()))))),))
        gone = read_turning("a, a head -")
        self.assertEqual([parts_around(gone, NODE, (0, 0)), parts_around(gone, NODE, (1, 0))], [(), (("go", "a"),)])
        twice = read_turning("a, a doc !b !a !b")
        self.assertEqual(goes_of(parts_around(twice, NODE, (1,))), ("b", "a", "b"))

    def test_wrong_places(self):
        for place, at in (([], -1), (None, -1), ((2,), 0), ((True,), 0), ((0, 0, 0), 2), ((1, 2), 1)):
            self.fails(InvalidPlace, at, parts_around, TURNING, NODE, place)
        self.told_for_any_value(lambda value: parts_around(TURNING, NODE, value), InvalidPlace)

    def test_any_other_thing(self):
        chance = seeded(111)
        for _ in range(100):
            turning = random_turning(chance)
            node = random_node(chance, 3)
            for place in places_of(node):
                parts = parts_around(turning, node, place)
                need_turning(Turning((("a", "a", parts),), "a"))
                things = [random_node(chance, 2)] + ([] if place == () else ["q"])
                for thing in things:
                    self.assertEqual(made_by(turning, parts, (thing,)), turned(turning, replaced(node, place, thing)))

    def test_said_parts(self):
        self.assertEqual([said_parts(forest=()), said_parts(("x", ("a", ("", ("b", ()))))) ],
                         [(), (("say", "x"), ("node", "a", (("say", ""), ("node", "b", ()))))])
        chance = seeded(112)
        for _ in range(50):
            forest = random_forest(chance, 3)
            turning = random_turning(chance)
            for things in ((), random_forest(chance, 2)):
                self.assertEqual(made_by(turning, said_parts(forest), things), forest)

    def test_great(self):
        copying = Turning((("a", "", (("keep",),)), ("a", "x", (("node", "x", (("go", "a"), ("go", "a"))),))), "a")
        deep = nested("t", 11, lambda inner: ("x", (inner,)))
        self.assertEqual(len(goes_of(parts_around(copying, deep, (0,) * 11))), 2 ** 11)
        self.assertEqual([len(odd_values()) > 50, parts_around(copying, deep, (0,))],
                         [True, (("node", "x", (("go", "a"), ("go", "a"))),)])


if __name__ == "__main__":
    unittest.main()
