"""Points 53 and 54: bearings."""

import unittest

from tests.helping import Case, nested, random_forest, seeded
from tests.test_leasttables import random_table
from tests.test_schematext import random_schema
from turnsfit.bearings import (bearing_of, both_bearings, goal_table, made_names, no_bearing, node_bearing, text_bearing)
from turnsfit.effects import effect_of, is_one_taken
from turnsfit.leasttables import least_states, least_table
from turnsfit.schemas import Schema, node_names
from turnsfit.schematext import read_schema
from turnsfit.tables import Table, table_of
from turnsfit.turnings import Turning, modes_of, turned, turned_forest
from turnsfit.turningtext import read_turning

BARE = Turning((("m", "item", (("node", "row", (("go", "m"),)),)), ("m", "list", (("node", "table", (("go", "m"),)),))), "m")
ROWS = Schema((("r", "row", ("empty",)), ("t", "table", ("some", ("one", "r")))), ("t",))


def random_parts(chance, letter, depth):
    found = []
    for _ in range(chance.randint(0, 2)):
        kind = chance.random()
        if kind < .4 and depth:
            found.append(("node", chance.choice("xy"), random_parts(chance, letter, depth - 1)))
        elif kind < .6:
            found.append(("say", chance.choice(("", "s"))))
        else:
            found.append(("keep",) if letter == "" else ("go", chance.choice("mno")))
    return tuple(found)


def random_turning(chance):
    pairs = [(mode, letter) for mode in "mno" for letter in ("", "a", "b", "item") if chance.random() < .5]
    return Turning(tuple([(mode, letter, random_parts(chance, letter, 2)) for mode, letter in pairs]), chance.choice("mn"))


class BearingsTest(Case):
    def test_example(self):
        self.assertEqual((made_names(turning=BARE), len(goal_table(turning=BARE, schema=ROWS).texts)), (("row", "table"), 4))
        goal = goal_table(BARE, ROWS)
        self.assertTrue(bearing_of(BARE, goal, ("x", "y")) == bearing_of(BARE, goal, ()))

    def test_made_names(self):
        self.assertEqual(made_names(read_turning('a, a # z("x"), a x y(b(c() !a) b()) !a c("") "s"')), ("b", "c", "y", "z"))
        self.assertEqual(made_names(read_turning("a")), ())
        self.assertEqual(made_names(read_turning('a, a x !b "s"')), ())

    def test_goal_tables(self):
        chance = seeded(531)
        for _ in range(40):
            turning, schema = random_turning(chance), random_schema(chance)
            names = tuple(sorted(set(node_names(schema) + made_names(turning))))
            goal = goal_table(turning, schema)
            self.assertTrue(goal == least_states(table_of(schema, names)))
            self.assertEqual(goal.names, names)
        self.assertTrue(goal_table(read_turning("a"), ROWS) == least_table(ROWS))
        self.assertTrue(goal_table(read_turning("a"), Schema((), ())) == Table((), (), (), (), ()))

    def test_against_what_is_made(self):
        chance = seeded(541)
        for _ in range(80):
            turning = random_turning(chance)
            table = random_table(chance, ("x", "y"), chance.randint(1, 3))
            modes = modes_of(turning)

            def direct(forest):
                return tuple([effect_of(table, turned_forest(turning, mode, forest)) for mode in modes])
            self.assertEqual(no_bearing(turning=turning, table=table), direct(()))
            self.assertEqual(text_bearing(turning=turning, table=table), direct(("x",)))
            for _ in range(8):
                one, other = random_forest(chance, 2), random_forest(chance, 2)
                self.assertEqual(bearing_of(turning=turning, table=table, forest=one), direct(one))
                whole = both_bearings(one=bearing_of(turning, table, one), other=bearing_of(turning, table, other))
                self.assertEqual(whole, direct(one + other))
                name = chance.choice(("a", "b", "item", "page"))
                self.assertEqual(node_bearing(turning=turning, table=table, name=name, bearing=direct(one)), direct(((name, one),)))

    def test_taken_as_before(self):
        """A thing exchanged for one with the same bearing: what is made of the whole is taken as before."""
        chance = seeded(542)
        same = 0
        for _ in range(300):
            turning, table = random_turning(chance), random_table(chance, ("x", "y"), 2)
            one, other = random_forest(chance, 2), random_forest(chance, 2)
            if bearing_of(turning, table, one) != bearing_of(turning, table, other):
                continue
            same += 1
            ahead, behind = random_forest(chance, 1), random_forest(chance, 1)
            told = [is_one_taken(table, effect_of(table, turned(turning, ("a", ahead + (("b", inner + behind),)))))
                    for inner in (one, other)]
            self.assertEqual(told[0], told[1])
        self.assertTrue(same > 20)

    def test_modes_that_bear_nothing_and_turnings_without_rules(self):
        none = read_turning("a")
        table = table_of(ROWS, ("row", "table"))
        plain = (effect_of(table, ()),)
        self.assertEqual((no_bearing(none, table), text_bearing(none, table), node_bearing(none, table, "any", plain)), (plain,) * 3)
        self.assertEqual(bearing_of(none, table, ("x", ("any", ("y",)))), plain)
        turning = read_turning("a, a x row(), b # *, b x -")
        self.assertEqual(bearing_of(turning, table, (("x", ()),)), (effect_of(table, (("row", ()),)), effect_of(table, ())))
        self.assertEqual(both_bearings([[0, 1, 2, 3]], [(1, 1, 3, 3)]), ((1, 1, 3, 3),))

    def test_great(self):
        deep = nested(("a", ()), 300, lambda inner: ("a", (inner, "x")))
        turning = read_turning("m, m # *, m a x(!m !n) !n, n # x(), n a y(!m) !m")
        table = table_of(read_schema("a, a x [a b #]*, b y (a? #)"), ("x", "y"))
        self.assertEqual(len(bearing_of(turning, table, (deep,))), 2)
        self.assertEqual(len(bearing_of(turning, table, (("a", ("x",) * 90),))), 2)


if __name__ == "__main__":
    unittest.main()
