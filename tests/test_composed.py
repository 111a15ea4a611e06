"""Points 49 and 50: turnings one behind another, and lean ones."""

import unittest

from tests.helping import NAMES, Case, random_node, seeded
from tests.test_turnings import NODE, TURNING, random_turning
from turnsfit.composed import composed, composed_all, keeping, lean
from turnsfit.turnings import Turning, goes_of, modes_of, need_turning, rule_for, turned, turned_forest
from turnsfit.turningtext import read_turning, turning_text


def reached_modes(turning):
    found = [turning.mode]
    for mode in found:
        for letter in ("",) + NAMES:
            for other in goes_of(rule_for(turning, mode, letter) or ()):
                if other not in found:
                    found.append(other)
    return found


def all_partings(things):
    """All ways to put things together in lots."""
    if not things:
        return [[]]
    found = []
    for lots in all_partings(things[1:]):
        found.append([[things[0]]] + lots)
        found.extend([lots[:at] + [[things[0]] + lots[at]] + lots[at + 1:] for at in range(len(lots))])
    return found


def up_to_lots(parts, lot_of):
    return tuple([("go", lot_of[part[1]]) if part[0] == "go" else
                  ("node", part[1], up_to_lots(part[2], lot_of)) if part[0] == "node" else part for part in parts])


def rules_that_count(turning, mode, lot_of):
    found = {}
    for letter in ("",) + NAMES:
        parts = rule_for(turning, mode, letter)
        same = parts and letter and len(parts) == 1 and parts[0][0] == "go" and lot_of[parts[0][1]] == lot_of[mode]
        if parts is not None and not same and (letter or parts):
            found[letter] = up_to_lots(parts, lot_of)
    return found


def fewest_lots(turning):
    """The fewest lots, by trying all."""
    counts = []
    for lots in all_partings(reached_modes(turning)):
        lot_of = {mode: at for at, lot in enumerate(lots) for mode in lot}
        if all(rules_that_count(turning, lot[0], lot_of) == rules_that_count(turning, mode, lot_of)
               for lot in lots for mode in lot):
            counts.append(len(lots))
    return min(counts)


class ComposedTest(Case):
    def test_example(self):
        both = composed(TURNING, read_turning('k, k # "t" *, k list ul(!k)'))
        self.assertEqual(turned(both, NODE), (("ul", ("t", "x", ("ul", ()))),))
        self.assertEqual(turning_text(lean(read_turning('k, k x y(!m), m x y(!k), m z !k'))), 'a, a x y(!a)')

    def test_one_behind_another(self):
        chance = seeded(121)
        for _ in range(120):
            one, other, third = [random_turning(chance) for _ in range(3)]
            node = random_node(chance, 3)
            both = composed(one=one, other=other)
            need_turning(both)
            made = turned_forest(other, other.mode, turned(one, node))
            self.assertEqual(turned(both, node), made)
            for turnings in ((one, other, third), [one, other, third]):
                all_three = composed_all(turnings=turnings)
                need_turning(all_three)
                self.assertEqual(turned(all_three, node), turned_forest(third, third.mode, made))
            self.assertEqual(turned(composed_all([one]), node), turned(one, node))

    def test_edges(self):
        none = Turning((), "a")
        self.assertEqual(turned(composed(none, TURNING), NODE), ())
        self.assertEqual(turned(composed(TURNING, none), NODE), ())
        texts = read_turning('a, a # "s" n(*), a x !a')
        double = read_turning('a, a # * *, a n m(!a "t")')
        self.assertEqual(turned(composed(texts, double), ("x", ("q",))), ("s", "s", ("m", ("q", "q", "t"))))

    def test_keeping(self):
        self.assertEqual(turning_text(keeping(names=("b", "a"))), "a, a # *, a a a(!a), a b b(!a)")
        self.assertTrue(keeping(["b", "a", "b"]) == keeping(("a", "b")))
        self.assertEqual([turning_text(keeping(())), turned(keeping(()), NODE)], ["a, a # *", ("h", "x")])
        self.assertEqual(turned(keeping(("doc", "par")), NODE), (("doc", ("h", ("par", ("x", ("doc", ()))))),))
        need_turning(keeping(("list", "abcdefgh", "a")))

    def test_lean_texts(self):
        for text, less in (("k", "a"), ("k, m x y()", "a"), ("k, k # -", "a"), ("k, k x !k", "a"), ("k, k x -", "a, a x -"),
                           ("k, k x !m", "a"), ("k, k x !m, m x !k", "a"), ("k, k x !k !k", "a, a x !a !a"),
                           ("k, k x !m, m y -", "a, a x !b, b y -"), ("k, k # *, k x !m", "a, a # *, a x !b"),
                           ('k, k x !m !n, m # "1", n # "2"', 'a, a x !b !c, b # "1", c # "2"'),
                           ('k, k x !m !n, m # "1", n # "1"', 'a, a x !b !b, b # "1"'),
                           ("q, k x !q, k y -, p # *, q w !o, q x z(!k) !p", "a, a w !b, a x z(!c) !d, c x !a, c y -, d # *")):
            self.assertEqual(turning_text(lean(turning=read_turning(text))), less)

    def test_lean_does_the_same_with_fewest_modes(self):
        chance = seeded(122)
        for _ in range(150):
            turning = random_turning(chance)
            less = lean(turning)
            need_turning(less)
            self.assertEqual(len(modes_of(less)), fewest_lots(turning), turning_text(turning))
            self.assertTrue(lean(less) == less)
            for _ in range(5):
                node = random_node(chance, 3)
                self.assertEqual(turned(less, node), turned(turning, node))

    def test_names_of_modes(self):
        """Modes are named as they are come to, beyond z with two letters."""
        named = ["m" + first + second for first in "abcdef" for second in "abcde"]
        rules = tuple([(mode, "x", (("say", str(at)), ("go", named[min(at + 1, 29)]))) for at, mode in enumerate(named)])
        made = lean(Turning(rules, named[0]))
        self.assertEqual(modes_of(made), tuple(sorted(list("abcdefghijklmnopqrstuvwxyz") + ["ba", "bb", "bc", "bd"])))
        self.assertEqual([rule_for(made, "z", "x"), rule_for(made, "bd", "x")],
                         [(("say", "25"), ("go", "ba")), (("say", "29"), ("go", "bd"))])
        need_turning(made)

    def test_great(self):
        deep = (("node", "x", (("node", "y", (("node", "x", (("go", "a"), ("say", "t"))), ("say", "s"))), ("go", "d"))),
                ("say", "s"), ("node", "y", ()), ("go", "c"), ("say", "u"), ("say", "v"), ("say", "w"))
        rules = tuple([(mode, letter, deep if letter == "x" else (("go", after), ("node", "x", (("go", mode),))))
                       for mode, after in zip("abcd", "bcda") for letter in ("x", "y")])
        turning = Turning(rules, "a")
        three = composed_all((turning, turning, turning))
        need_turning(three)
        for node in (("x", ()), ("y", (("x", ()),)), ("z", ("t",))):
            made = turned_forest(turning, "a", turned_forest(turning, "a", turned(turning, node)))
            self.assertEqual(turned(three, node), made)
        self.assertEqual(turned(lean(three), ("x", ())), turned(three, ("x", ())))


if __name__ == "__main__":
    unittest.main()
