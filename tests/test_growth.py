"""Point 51: how much turnings make."""

import itertools
import unittest

from tests.helping import Case, nested, odd_values, random_node, seeded
from tests.test_bearings import random_turning
from turnsfit.errors import InvalidPlace, Refused
from turnsfit.growth import burst, check_growing, fruit, growing, most_uses, size_factor, uses
from turnsfit.nodes import is_node, least_of, size_of
from turnsfit.places import places_of
from turnsfit.turnings import Turning, made_size, modes_of, rule_for, turned_forest
from turnsfit.turningtext import read_turning, turning_text
from turnsfit.words import is_name

TURNING = read_turning("a, a # *, a doc list(!b), b par item(!a)")
TWICE = read_turning("a, a # *, a x !a !a")
NAMES = ("a", "b", "item", "q")


def ways(turning, mode, name):
    """The modes to which a node with a name leads, straight from the rule."""
    rule = rule_for(turning, mode, name)
    if rule is None:
        return [mode]
    found = []
    waiting = list(rule)
    while waiting:
        part = waiting.pop()
        if part[0] == "go":
            found.append(part[1])
        elif part[0] == "node":
            waiting.extend(part[2])
    return found


def modes_behind(turning, names):
    """All modes in which what stands below nodes with some names is turned, as often as it is."""
    modes = [turning.mode]
    for name in names:
        modes = [other for mode in modes for other in ways(turning, mode, name)]
    return modes


def is_growing(turning, way, loop, one, other):
    def counted(mode):
        return modes_behind(Turning(turning.rules, mode), loop)
    if fruit(turning, one) is None or fruit(turning, other) is None or one not in modes_behind(turning, way):
        return False
    if one == other:
        return counted(one).count(one) > 1
    return one in counted(one) and other in counted(one) and other in counted(other)


class GrowthTest(Case):
    def test_example(self):
        self.assertEqual((check_growing(TWICE, ((), ("x",), "a", "a")), most_uses(TWICE)), (True, None))
        self.assertEqual((most_uses(turning=TURNING), size_factor(turning=TURNING), fruit(turning=TURNING, mode="b")),
                         (1, 1, ("par", ())))

    def test_fruits(self):
        chance = seeded(511)
        things = ["", "x"] + [(name, inner) for name in NAMES for inner in ((), ("",), ("x",))]
        things += [(name, (thing,) + rest) for name in NAMES for thing in things[2:] for rest in ((), ("",))]
        found = {None: 0}
        for _ in range(150):
            turning = random_turning(chance)
            for mode in modes_of(turning) + ("z",):
                told = fruit(turning, mode)
                fruits = [thing for thing in things if turned_forest(turning, mode, (thing,))]
                if told is None or size_of(told) < 4:
                    self.assertEqual(told, least_of(fruits) if fruits else None, (turning_text(turning), mode))
                else:
                    self.assertEqual(len(turned_forest(turning, mode, (told,))) > 0 and all(size_of(one) > 3 for one in fruits), True)
                found[told] = found.get(told, 0) + 1
        self.assertTrue(len(found) > 8 and found[None] > 20)
        chain = read_turning('a, a x !b, b y !c, c w z(!a), c z -, d # -')
        self.assertEqual([fruit(chain, mode) for mode in "abcd"], [("x", (("y", (("w", ()),)),)), ("y", (("w", ()),)), ("w", ()), None])
        self.assertEqual(fruit(read_turning('a, a # "", a b "s"'), "a"), "")

    def test_uses(self):
        chance = seeded(512)
        for _ in range(80):
            turning = random_turning(chance)
            node = random_node(chance, 3)
            for place in places_of(node):
                names = []
                thing = node
                for number in place:
                    names.append(thing[0])
                    thing = thing[1][number]
                modes = modes_behind(turning, names)
                self.assertEqual(uses(turning=turning, node=node, place=place),
                                 len([mode for mode in modes if fruit(turning, mode) is not None]))

    def test_places(self):
        node = ("x", ("s", ("x", ("t",))))
        self.assertEqual([uses(TWICE, node, place) for place in ((), (0,), (1,), (1, 0))], [1, 2, 2, 4])
        for place, at in ((None, -1), ([], -1), ((2,), 0), ((0, 0), 1), ((True,), 0), ((1, 1), 1)):
            self.fails(InvalidPlace, at, uses, TWICE, node, place)
        for value in odd_values():
            try:
                uses(TWICE, node, value)
            except InvalidPlace:
                pass

    def test_greatest_number_or_growing_paper(self):
        chance = seeded(513)
        told = {}
        for _ in range(300):
            turning = random_turning(chance)
            paper = growing(turning=turning)
            most = most_uses(turning)
            self.assertIs(most is None, paper is not None, turning_text(turning))
            if paper is not None:
                told[None] = told.get(None, 0) + 1
                self.assertIs(check_growing(turning=turning, value=paper), True)
                self.assertTrue(is_growing(turning, *paper))
                self.assertIsNone(size_factor(turning))
                continue
            fruits = {mode: fruit(turning, mode) is not None for mode in modes_of(turning)}
            found = max([len([mode for mode in modes_behind(turning, names) if fruits[mode]])
                         for many in range(6) for names in itertools.product(("a", "b", "item"), repeat=many)])
            told[found] = told.get(found, 0) + 1
            self.assertEqual(most, found, turning_text(turning))
            for _ in range(5):
                node = random_node(chance, 4)
                self.assertTrue(made_size(turning, node) <= size_factor(turning) * size_of(node))
        self.assertTrue(min(told[None], told[0], told[1], told[2]) > 8, told)

    def test_size_factors(self):
        for text, factor in (("a", 0), ('a, a x y(z() "s") !a', 3), ('a, a # * "s" y(*), a x !a', 4), ('a, a x !b !c, b y "s", c y "t"', 2),
                             ("a, b x y()", 0), ("a, a x -", 0), ('a, a x !b !b, b # *, b x !c "s" "s"', 4)):
            self.assertEqual(size_factor(read_turning(text)), factor, text)
        self.assertEqual(most_uses(read_turning("a")), 0)
        self.assertEqual(most_uses(read_turning('a, a x !b !b, b x !c !c !c, c # *')), 6)
        self.assertEqual(growing(read_turning("a, a x !a !b, b x !b")), None)
        self.assertEqual(growing(read_turning('a, a x !a !b, b # *, b y !b'))[2:], ("a", "b"))

    def test_check_growing(self):
        chance = seeded(514)
        taken = 0
        for _ in range(200):
            turning = random_turning(chance)
            modes = modes_of(turning)
            for _ in range(60):
                way, loop = [tuple([chance.choice(NAMES) for _ in range(chance.randint(0, 3))]) for _ in range(2)]
                one, other = chance.choice(modes), chance.choice(modes)
                right = is_growing(turning, way, loop, one, other)
                taken += right
                self.assertIs(check_growing(turning, (way, loop, one, other)), right)
        self.assertTrue(taken > 20, taken)

    def test_wrong_papers(self):
        for value in (((), (), "a", "a"), ((), ("y",), "a", "a"), [(), ("x",), "a", "a"], ((), ["x"], "a", "a"), ([], ("x",), "a", "a"),
                      ((), ("x", "X"), "a", "a"), ((), ("x", ""), "a", "a"), ((), ("x",), "a"), ((), ("x",), "a", "a", ()),
                      ((), ("x",), "a", "b"), ((), ("x",), None, "a"), ((), ("x",), ["a"], "a"), ("", ("x",), "a", "a"), ((), "x", "a", "a"),
                      ((1,), ("x",), "a", "a"), ()):
            self.assertIs(check_growing(TWICE, value), False, value)
        self.assertIs(check_growing(TWICE, (("q", "x"), ("y", "x", "y"), "a", "a")), True)
        self.assertIs(check_growing(read_turning("a, a x !a !a"), ((), ("x",), "a", "a")), False)
        self.assertIs(check_growing(TWICE, ((), ("x",) * 3000, "a", "a")), True)

    def test_any_value(self):
        for value in odd_values():
            for paper in (value, (value, ("x",), "a", "a"), ((), value, "a", "a"), ((), ("x",), value, "a"), ((), ("x", value), "a", value)):
                right = isinstance(paper, tuple) and len(paper) == 4 and all(
                    isinstance(names, tuple) and all(is_name(name) for name in names) for names in paper[:2])
                right = right and all(isinstance(mode, str) for mode in paper[2:]) and is_growing(TWICE, *paper)
                self.assertIs(check_growing(TWICE, paper), right)

    def test_bursts(self):
        chance = seeded(515)
        found = 0
        for _ in range(200):
            turning = random_turning(chance)
            if growing(turning) is None:
                self.fails(Refused, "bounded", burst, turning, 1)
                continue
            found += 1
            for times in (1, 2, 5):
                node = burst(turning=turning, times=times)
                self.assertTrue(is_node(node))
                self.assertTrue(made_size(turning, node) > times * size_of(node))
        self.assertTrue(found > 15)
        for text in ("a, a # *, a x !a !a", 'a, a x !a !b, b y "s"', "a, a x !b, b x !c, c x !d, d y !d !d, d z w()"):
            for times in (1, 5, 9):
                node = burst(read_turning(text), times)
                self.assertTrue(made_size(read_turning(text), node) > times * size_of(node))

    def test_great(self):
        deep = nested(("x", ("",)), 57, lambda inner: ("x", (inner,)))
        self.assertEqual(uses(TWICE, deep, (0,) * 58), 2 ** 58)
        rules = []
        for mode, other in zip("abcd", "bcdd"):
            for name in "xyzuv":
                rules.append((mode, name, (("go", other),) * (38 if mode != "d" and name != "v" else 1) + (("say", name),)))
        turning = Turning(tuple(sorted(rules)), "a")
        self.assertEqual((most_uses(turning), size_factor(turning)), (38 ** 3, 38 ** 3))
        rules = [(mode, "", (("keep",),)) for mode in "bcd"]
        for at, name in enumerate("uvwxy"):
            rules.append(("a", name, tuple([("go", "bcd"[(at + number) % 3]) for number in range(3)])))
            rules.extend([(mode, name, (("go", "bcd"["bcd".index(mode) - at % 3]),)) for mode in "bcd"])
        self.assertEqual(most_uses(Turning(tuple(sorted(rules)), "a")), 3)


if __name__ == "__main__":
    unittest.main()
