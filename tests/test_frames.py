"""Point 9: frames."""

import unittest

from tests.helping import Case, nested, odd_values, random_forest, random_node, seeded
from turnsfit.errors import InvalidPlace
from turnsfit.frames import frame_at, frame_place, framed, is_frame
from turnsfit.nodes import is_forest
from turnsfit.places import at_place, places_of, replaced
from turnsfit.words import is_name

NODE = ("list", ("one", ("item", ("x",)), ("item", ())))


def random_frame(chance, depth):
    return tuple([(chance.choice("ab"), random_forest(chance, 1), random_forest(chance, 1)) for _ in range(depth)])


class FramesTest(Case):
    def test_example(self):
        self.assertEqual(frame_at(NODE, (1, 0)), (("list", ("one",), (("item", ()),)), ("item", (), ())))
        self.assertEqual((framed((("a", (), ("x",)),), ("b", ())), frame_place((("a", ("y",), ()),))),
                         (("a", (("b", ()), "x")), (1,)))

    def test_top(self):
        self.assertEqual((frame_at(node=NODE, place=()), framed(frame=(), thing=NODE), frame_place(frame=())), ((), NODE, ()))
        self.assertIs(is_frame(value=()), True)

    def test_is_frame(self):
        for value in ((("a", (), ()),), (("a", ("x",), (("b", ()),)), ("b", (), ("",)))):
            self.assertIs(is_frame(value), True)
        for value in ([], "a", None, ("a", (), ()), (("a", ()),), (("a", (), (), ()),), (["a", (), ()],), (("A", (), ()),),
                      (("a", [], ()),), (("a", (), ("X",)),), (("a", (("b",),), ()),), (("a", (), ()), None),
                      (("", (), ()),), (("a", "", ()),), ((1, (), ()),), (("a", (), None),)):
            self.assertIs(is_frame(value), False)

    def test_any_value(self):
        for value in odd_values():
            direct = isinstance(value, tuple) and all(
                isinstance(one, tuple) and len(one) == 3 and is_name(one[0]) and is_forest(one[1]) and is_forest(one[2])
                for one in value)
            self.assertIs(is_frame(value), direct)
            self.assertIs(is_frame((("a", value, ()),)), is_forest(value))
            self.assertIs(is_frame((("a", (), (value,)),)), is_forest((value,)))
            try:
                frame_at(NODE, value)
            except InvalidPlace:
                pass

    def test_wrong_places(self):
        for place, at in ((None, -1), ([], -1), ((3,), 0), ((True,), 0), ((1, 1), 1), ((0, 0), 1), ((1, 0, 0), 2), ((-1,), 0),
                          ((1, 2, 9), 1), ((None,), 0)):
            self.fails(InvalidPlace, at, frame_at, NODE, place)

    def test_there_and_back(self):
        chance = seeded(91)
        for _ in range(80):
            node = random_node(chance, 4)
            for place in places_of(node):
                frame = frame_at(node, place)
                self.assertTrue(is_frame(frame))
                self.assertEqual(frame_place(frame), place)
                self.assertEqual(framed(frame, at_place(node, place)), node)
                self.assertEqual(framed(frame, ("new", ())), replaced(node, place, ("new", ())))
        for _ in range(80):
            frame = random_frame(chance, chance.randint(0, 4))
            thing = random_node(chance, 2) if not frame or chance.random() < .5 else "x"
            whole = framed(frame, thing)
            self.assertEqual((frame_at(whole, frame_place(frame)), at_place(whole, frame_place(frame))), (frame, thing))

    def test_one_behind_another(self):
        chance = seeded(92)
        for _ in range(80):
            one, other = random_frame(chance, chance.randint(0, 3)), random_frame(chance, chance.randint(0, 3))
            thing = random_node(chance, 2)
            self.assertEqual(framed(one + other, thing), framed(one, framed(other, thing)))
            self.assertEqual(frame_place(one + other), frame_place(one) + frame_place(other))

    def test_great(self):
        frame = (("a", ("",) * 3, ("x",) * 2),) * 25
        whole = framed(frame, ("b", ()))
        self.assertEqual(frame_place(frame), (3,) * 25)
        self.assertEqual(frame_at(whole, (3,) * 25), frame)
        deep = nested(("a", ()), 300, lambda inner: ("a", (inner,)))
        self.assertEqual(framed(frame_at(deep, (0,) * 300), "x"), replaced(deep, (0,) * 300, "x"))


if __name__ == "__main__":
    unittest.main()
