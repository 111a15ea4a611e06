"""Points 46 and 47: turnings, what they make, its size and its origins."""

import unittest

from tests.helping import GREAT, NAMES, Case, nested, odd_values, random_forest, random_node, seeded
from turnsfit.errors import InvalidTurning
from turnsfit.nodes import forest_size
from turnsfit.places import at_place, places_of, replaced
from turnsfit.turnings import (Turning, goes_of, is_turning, made_by, made_document, made_size, modes_of, need_turning,
                               origins, rule_for, turned, turned_forest)
from turnsfit.turningtext import read_turning

NODE = ("doc", (("head", ("h",)), ("par", ("x", ("doc", ())))))
TURNING = read_turning('a, a # *, a doc list(!b), b par item(!a)')
KEEP, GO, SAY = (("keep",), ("go", "a"), ("say", "x"))


def plainly_turned(turning, mode, forest):
    """What is made of a forest, straight from point 46."""
    made = []
    for thing in forest:
        letter = "" if isinstance(thing, str) else thing[0]
        parts = rule_for(turning, mode, letter)
        if parts is not None:
            made.extend(plainly_made(turning, parts, thing))
        elif letter:
            made.extend(plainly_turned(turning, mode, thing[1]))
    return tuple(made)


def plainly_made(turning, parts, thing):
    made = []
    for part in parts:
        if part[0] == "node":
            made.append((part[1], tuple(plainly_made(turning, part[2], thing))))
        elif part[0] == "go":
            made.extend(plainly_turned(turning, part[1], thing[1]))
        else:
            made.append(thing if part[0] == "keep" else part[1])
    return made


def random_parts(chance, depth, of_text, modes):
    parts = []
    for _ in range(chance.randint(0, 3)):
        kind = chance.random()
        if kind < .4 and depth > 0:
            parts.append(("node", chance.choice(NAMES), random_parts(chance, depth - 1, of_text, modes)))
        elif kind < .55:
            parts.append(("say", chance.choice(("", "t"))))
        else:
            parts.append(("keep",) if of_text else ("go", chance.choice(modes)))
    return tuple(parts)


def random_turning(chance):
    modes = chance.sample(("k", "m", "n", "zz"), chance.randint(1, 4))
    rules = []
    for mode in sorted(modes):
        for letter in ("",) + NAMES:
            kind = chance.random()
            if kind < .5:
                rules.append((mode, letter, random_parts(chance, 2, letter == "", modes)))
            elif kind < .6 and letter:
                rules.append((mode, letter, (("go", chance.choice(modes)),)))
    return Turning(tuple(rules), chance.choice(modes))


class TurningsTest(Case):
    def test_example(self):
        self.assertEqual(TURNING.rules[2], ("b", "par", (("node", "item", (("go", "a"),)),)))
        self.assertEqual((turned(TURNING, NODE), made_size(TURNING, NODE), origins(TURNING, NODE)),
                         ((("list", (("item", ("x", ("list", ()))),)),), 4, ((), (1,), (1, 0), (1, 1))))

    def test_class(self):
        rules = [1]
        self.assertIs(Turning(rules=rules, mode=None).rules, rules)
        self.assertTrue(Turning((), "a") == Turning((), "a"))
        for other in (Turning((), "b"), Turning([], "a"), ((), "a"), None):
            self.assertTrue(Turning((), "a") != other)

    def test_right_turnings(self):
        for turning in (TURNING, Turning((), "a"), Turning((("a", "", ()), ("a", "a", ()), ("b", "", (KEEP, SAY))), "z"),
                        Turning((("a", "x", (("node", "x", (GO, SAY, ("node", "y", ()))), GO)),), "a"),
                        Turning((("a", "", (("node", "x", (KEEP, KEEP)),)),), "a")):
            self.assertIsNone(need_turning(value=turning))
            self.assertIs(is_turning(turning), True)

    def test_wrong_turnings(self):
        right = ("a", "", (KEEP,))
        for value in (None, ((), "a"), Turning([], "a"), Turning((), ""), Turning((), None), Turning((1,), "A"), Turning(None, "a")):
            self.fails(InvalidTurning, -1, need_turning, value)
        for rule in (None, ("a", "x"), ["a", "x", ()], ("a", "x", []), ("", "x", ()), ("a", "X", ()), ("a", 1, ()), ("a", "x", (1,)),
                     ("a", "x", (KEEP,)), ("a", "x", ((),)), ("a", "x", (["go", "a"],)), ("a", "x", (("go", ""),)),
                     ("a", "x", (("go",),)), ("a", "x", (("say", "a" * 17),)), ("a", "x", (("say",),)), ("a", "x", (SAY + (1,),)),
                     ("a", "x", (("node", "y"),)), ("a", "x", (("node", "y", GO + (1,)),)), ("a", "x", (("node", "", ()),)),
                     ("a", "x", (("node", "y", [GO]),)), ("a", "x", (("node", "y", (GO, ("node", "z", (KEEP,)))),)),
                     ("a", "x", (("other", "a"),)), ("a", "x", (True,)), ("a", "x", (("keep", "a"),)), ("a", "x", ("go",)),
                     ("a", "", (KEEP,)), right, ("a", "x", (("node", "y", (), ()),)), (("a",), "x", ())):
            self.fails(InvalidTurning, 1, need_turning, Turning((right, rule), "a"))
            self.assertIs(is_turning(Turning((right, rule), "a")), False)
        for rule in (("b", "", (GO,)), ("b", "", (("node", "x", (GO,)),)), ("b", "", (("keep", ""),)), ("b", "", (KEEP, "keep"))):
            self.fails(InvalidTurning, 1, need_turning, Turning((right, rule), "a"))
        self.fails(InvalidTurning, 2, need_turning, Turning((("a", "x", ()), ("b", "", ()), ("a", "y", ()), 1), "a"))
        self.fails(InvalidTurning, 1, need_turning, Turning((("a", "x", ()), ("a", "x", (GO,))), "a"))
        self.fails(InvalidTurning, 1, need_turning, Turning((("a", "x", ()), ("a", "", ())), "a"))

    def test_any_value(self):
        self.told_for_any_value(need_turning, InvalidTurning)
        for value in odd_values():
            for turning in (Turning(value, "a"), Turning((), value), Turning((value,), "a"), Turning((("a", "x", value),), "a"),
                            Turning((("a", "x", (value, value)),), "a"), Turning(((value, value, value),), "a"),
                            Turning((("a", "x", (("node", "y", (value,)),)),), "a"), Turning((("a", value, ()),), "a")):
                self.told_for_any_value(lambda _, turning=turning: need_turning(turning), InvalidTurning)
                self.assertIn(is_turning(turning), (True, False))
        need_turning(Turning((("a", "x", nested((), 80, lambda inner: (("node", "y", inner),))),), "a"))

    def test_what_is_in_it(self):
        parts = (("node", "x", (("go", "d"), ("node", "y", (("go", "b"),)), ("go", "d"))), SAY, ("go", "a"))
        turning = Turning((("c", "", (KEEP,)), ("c", "x", parts)), "m")
        self.assertEqual([goes_of(parts=parts), goes_of(()), modes_of(turning=turning)],
                         [("d", "b", "d", "a"), (), ("a", "b", "c", "d", "m")])
        self.assertEqual([rule_for(turning=turning, mode="c", letter="x"), rule_for(turning, "c", ""), rule_for(turning, "m", "x"),
                          rule_for(turning, "c", "y")], [parts, (KEEP,), None, None])
        self.assertEqual([modes_of(Turning((), "q")), rule_for(Turning((), "q"), "q", "")], [("q",), None])

    def test_turned_by_rules(self):
        chance = seeded(91)
        for _ in range(150):
            turning = random_turning(chance)
            need_turning(turning)
            node = random_node(chance, 3)
            made = turned(turning=turning, node=node)
            self.assertEqual(made, plainly_turned(turning, turning.mode, (node,)))
            self.assertEqual(made_size(turning=turning, node=node), forest_size(made))
            forest = random_forest(chance, 2)
            for mode in modes_of(turning) + ("none",):
                self.assertEqual(turned_forest(turning=turning, mode=mode, forest=forest), plainly_turned(turning, mode, forest))
            parts = random_parts(chance, 2, False, modes_of(turning))
            self.assertEqual(made_by(turning=turning, parts=parts, things=forest),
                             tuple(plainly_made(turning, parts, ("a", forest))))
            self.check_origins(turning, node)

    def check_origins(self, turning, node):
        """With the rules of one thing marked, what is made by it is marked."""
        found = origins(turning=turning, node=node)
        self.assertEqual(len(found), made_size(turning, node))
        self.assertLessEqual(set(found), set(places_of(node)))
        for place in places_of(node):
            thing = at_place(node, place)
            if isinstance(thing, str):
                continue
            marked = replaced(node, place, ("mark", thing[1]))
            rules = [("mark",) + rule for rule in turning.rules if rule[1] == thing[0]]
            named = [(mode, "mark", say_marked(parts)) for _, mode, _, parts in rules]
            other = Turning(tuple(sorted(turning.rules + tuple(named), key=lambda rule: rule[:2])), turning.mode)
            made = turned(other, marked)
            self.assertEqual([is_marked for is_marked in marks_in(made)], [origin == place for origin in found])

    def test_edges(self):
        none = Turning((), "a")
        self.assertEqual([turned(none, NODE), made_size(none, NODE), origins(none, NODE), made_document(none, NODE)],
                         [(), 0, (), None])
        self.assertEqual([turned_forest(none, "a", ()), made_by(none, (), ("x",)), made_by(none, (SAY,), ())], [(), (), ("x",)])
        self.assertEqual(made_by(TURNING, (("go", "a"), ("node", "n", (("go", "a"),))), ("y",)), ("y", ("n", ("y",))))
        self.assertEqual(made_document(turning=TURNING, node=NODE), turned(TURNING, NODE)[0])
        two = read_turning('a, a x "" y(), a y "t", a z y()')
        self.assertEqual([made_document(two, ("x", ())), made_document(two, ("y", ())), made_document(two, ("z", ()))],
                         [None, None, ("y", ())])
        texts = read_turning('a, a # n(* "s" *) *')
        self.assertEqual(turned(texts, ("x", ("q",))), (("n", ("q", "s", "q")), "q"))
        self.assertEqual(origins(texts, ("x", ("q",))), ((0,),) * 5)

    def test_great(self):
        forty = Turning((("a", "x", (("go", "a"),) * 40),), "a")
        deep = nested(("x", ()), 29, lambda inner: ("x", (inner, "t")))
        self.assertEqual([turned(forty, nested(("x", ()), 15, lambda inner: ("x", (inner,)))), made_size(forty, deep)], [(), 0])
        full = Turning((("a", "", (KEEP,)), ("a", "x", (("go", "a"),) * 39 + (SAY,))), "a")
        size = 1
        for _ in range(29):
            size = 39 * (size + 1) + 1
        self.assertEqual(made_size(full, deep), size)
        self.assertEqual(forest_size(turned(full, ("x", (("x", ("x",) * 6),)))), 39 * (39 * 6 + 1) + 1)
        aside = Turning(full.rules + (("b", "x", (("go", "b"), ("go", "c"))), ("c", "x", (SAY,))), "b")
        self.assertEqual(turned(aside, nested(("x", ()), 15, lambda inner: ("x", (inner,)))), ("x",) * 15)
        modes = tuple([(mode, letter, (("node", "y", (("go", "abcd"[at]),) * 38),)) for at, mode in enumerate("bcda")
                       for letter in "mnopq"])
        turning = Turning(tuple(sorted(modes)), "a")
        need_turning(turning)
        self.assertEqual(made_size(turning, nested(("m", ()), 29, lambda inner: ("m", (inner, inner[:1] + ((),))))) > 38 ** 29, True)
        self.assertEqual(made_size(Turning((("a", "x", (("node", "x", (("go", "a"),)),)),), "a"),
                                   nested(("x", ()), 3000, lambda inner: ("x", (inner,)))), 3001)
        self.fails(InvalidTurning, 0, need_turning, Turning((("a", "x", (("say", GREAT),)),), "a"))


def say_marked(parts):
    """The same parts, with everything that they make marked."""
    made = []
    for part in parts:
        if part[0] == "node":
            made.append(("node", "mark", say_marked(part[2])))
        else:
            made.append(("say", "mark") if part[0] == "say" else part)
    return tuple(made)


def marks_in(forest):
    found = []
    for thing in forest:
        if isinstance(thing, str):
            found.append(thing == "mark")
        else:
            found.append(thing[0] == "mark")
            found.extend(marks_in(thing[1]))
    return found


if __name__ == "__main__":
    unittest.main()
