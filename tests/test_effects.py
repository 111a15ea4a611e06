"""Point 52: effects."""

import unittest

from tests.helping import Case, nested, seeded
from tests.test_leasttables import random_table
from tests.test_tables import PAIRS, all_forests
from turnsfit.effects import both_effects, effect_of, is_one_taken
from turnsfit.tables import Table, state_behind, takes


def direct(table, forest):
    """An effect, straight from what it is."""
    many = len(table.texts)

    def alone(things):
        if not things:
            return many
        if len(things) == 1 and not isinstance(things[0], str) and takes(table, things[0]):
            return many + 1
        return many + 2
    found = [state_behind(table, state, forest) for state in range(many)]
    found.append(alone(forest))
    found.append(many + 1 if not forest else many + 2)
    return tuple(found + [many + 2])


class EffectsTest(Case):
    def test_example(self):
        self.assertEqual((effect_of(PAIRS, ()), effect_of(PAIRS, ("",)), effect_of(PAIRS, (("a", ()),)),
                          effect_of(table=PAIRS, forest=(("a", ("x",)),))),
                         ((0, 1, 2, 3, 4), (1, 0, 4, 4, 4), (1, 0, 3, 4, 4), (1, 0, 4, 4, 4)))

    def test_against_what_effects_are(self):
        chance = seeded(521)
        forests = [forest for size in range(5) for forest in all_forests(size, ("x", "y"))]
        for _ in range(60):
            table = random_table(chance, ("x", "y"), chance.randint(1, 4))
            some = chance.sample(forests, 30) + [()]
            for forest in some:
                self.assertEqual(effect_of(table, forest), direct(table, forest))
                one_taken = len(forest) == 1 and forest[0] != "" and takes(table, forest[0])
                self.assertIs(is_one_taken(table=table, effect=effect_of(table, forest)), one_taken)
            for one, other in zip(some, some[::-1]):
                whole = both_effects(one=effect_of(table, one), other=effect_of(table, other))
                self.assertEqual(whole, effect_of(table, one + other))

    def test_lists(self):
        self.assertEqual(both_effects([1, 0, 4, 4, 4], [1, 0, 3, 4, 4]), (0, 1, 4, 4, 4))
        self.assertIs(is_one_taken(PAIRS, [1, 0, 3, 4, 4]), True)

    def test_exchanged_anywhere(self):
        chance = seeded(522)
        forests = [forest for size in range(4) for forest in all_forests(size, ("x",))]
        for _ in range(40):
            table = random_table(chance, ("x",), 2)
            one, other = chance.choice(forests), chance.choice(forests)
            if effect_of(table, one) == effect_of(table, other):
                for ahead, behind in zip(chance.sample(forests, 9), chance.sample(forests, 9)):
                    self.assertIs(takes(table, ("x", ahead + (("x", one + behind),))), takes(table, ("x", ahead + (("x", other + behind),))))
                    self.assertIs(takes(table, ("x", ahead + one + behind)), takes(table, ("x", ahead + other + behind)))

    def test_tables_without_states(self):
        none = Table((), (), (), (), ())
        self.assertEqual((effect_of(none, ()), effect_of(none, ("",)), is_one_taken(none, (0, 1, 2))), ((0, 1, 2), (2, 2, 2), False))

    def test_great(self):
        wide = tuple([("a", ("",) * (number & 1)) for number in range(50)])
        self.assertEqual(effect_of(PAIRS, wide)[:2], (0, 1))
        deep = nested(("a", ()), 400, lambda inner: ("a", (inner, "x")))
        self.assertEqual(effect_of(PAIRS, (deep,)), direct(PAIRS, (deep,)))


if __name__ == "__main__":
    unittest.main()
