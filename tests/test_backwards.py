"""Point 55: the documents that a turning leads into a schema."""

import unittest

from tests.helping import Case, nested, random_forest, seeded
from tests.test_bearings import BARE, ROWS, random_turning
from tests.test_joined import lively_schema
from tests.test_tables import all_nodes
from turnsfit.backwards import led_into, led_table, one_made
from turnsfit.bearings import made_names
from turnsfit.fitting import fits
from turnsfit.joined import all_but, both_of
from turnsfit.leasttables import least_states
from turnsfit.nodes import names_of
from turnsfit.schemas import Schema, need_schema, node_names
from turnsfit.schematext import read_schema
from turnsfit.tables import Table, need_table, table_of, takes
from turnsfit.tablesums import both_tables, but_tables
from turnsfit.turnings import made_document
from turnsfit.turningtext import read_turning

NAMES = ("a", "b")
NODES = all_nodes(4, NAMES)
NOTHING = Table((), (), (), (), ())


TURNINGS = [read_turning(text) for text in (
    "a, a # *, a a x(!a), a b y(!a)", "a, a # *, a a y(!a), a b x(!a)", "a, a a x(!b), a b y(!a), b # *, b a !a", "a, a a x(!a !a), a b x(!a)",
    "a, a # *, a a x(y(!a))", "a, a a x(!b) !a, b # x()", "a, a b y(!a), a item x()")]


def any_turning(chance):
    return chance.choice(TURNINGS) if chance.random() < .7 else random_turning(chance)


def is_led(turning, schema, node):
    made = made_document(turning, node)
    return made is not None and fits(schema, made)


class BackwardsTest(Case):
    def test_example(self):
        led = led_table(turning=BARE, schema=ROWS, names=("item", "list", "page"))
        self.assertEqual((takes(led, ("page", ("x", ("list", (("item", ()), "y"))))), takes(led, ("list", ("x",))), takes(led, ("item", ()))),
                         (True, False, False))
        self.assertFalse(takes(one_made(turning=BARE, names=("item", "page")), ("page", (("item", ()), ("item", ())))))

    def test_against_what_is_made(self):
        chance = seeded(551)
        led = [0, 0]
        for _ in range(100):
            turning, schema = any_turning(chance), lively_schema(chance, 3)
            names = chance.choice((NAMES, ("a",), ("a", "item")))
            table = led_table(turning, schema, names)
            need_table(table)
            self.assertTrue(least_states(table) == table)
            self.assertEqual(table.names, names)
            one = one_made(turning, names)
            self.assertTrue(least_states(one) == one)
            for node in chance.sample(NODES, 30) + [("a", random_forest(chance, 3)) for _ in range(5)]:
                known = set(names_of(node)) <= set(names)
                self.assertIs(takes(table, node), known and is_led(turning, schema, node))
                self.assertIs(takes(one, node), known and made_document(turning, node) is not None)
                led[takes(table, node)] += 1
        self.assertTrue(min(led) > 100, led)

    def test_schemas(self):
        chance = seeded(552)
        many = 0
        while many < 40:
            turning, schema = any_turning(chance), lively_schema(chance, 3)
            table = led_table(turning, schema, NAMES)
            if len(table.texts) > 3:
                continue
            many += 1
            found = led_into(turning=turning, schema=schema, names=list(NAMES))
            need_schema(found)
            self.assertTrue(least_states(table_of(found, NAMES)) == table)
            for node in chance.sample(NODES, 20):
                self.assertIs(fits(found, node), is_led(turning, schema, node))

    def test_both_and_all_others(self):
        chance = seeded(553)
        for _ in range(30):
            turning, one, other = any_turning(chance), lively_schema(chance, 2), lively_schema(chance, 2)
            first, second = led_table(turning, one, NAMES), led_table(turning, other, NAMES)
            self.assertTrue(led_table(turning, both_of(one, other), NAMES) == both_tables(first, second))
            names = sorted(set(made_names(turning) + node_names(one)))
            self.assertTrue(led_table(turning, all_but(one, names), NAMES) == but_tables(one_made(turning, NAMES), first))

    def test_turnings_without_rules_and_names(self):
        none = read_turning("a")
        nothing = Table(NAMES, (0, 0), (0,), ((0,),), ())
        for table in (led_table(none, ROWS, NAMES), one_made(none, NAMES), led_table(BARE, Schema((), ()), ["a", "b"]),
                      one_made(read_turning('a, a # "x" "y", a a "s"'), NAMES)):
            self.assertTrue(table == nothing)
        self.assertTrue(led_table(BARE, ROWS, ()) == NOTHING and one_made(BARE, ()) == NOTHING)
        self.assertEqual(led_into(BARE, Schema((), ()), NAMES).tops, ())
        every = Table(NAMES, (0, 0), (0,), ((0,),), (0,))
        self.assertTrue(one_made(read_turning("a, a a x(!a), a b x(!a)"), NAMES) == every)
        self.assertTrue(led_table(read_turning("a, a a x(!a), a b x(!a)"), read_schema("x, x x x*"), NAMES) == every)

    def test_great(self):
        turning = read_turning("m, m # *, m a x(!m !n) !n, n # x(), n a y(!m) !m")
        schema = read_schema("a b, a x ([a b] #?)*, b y (a a b? #)")
        table = led_table(turning, schema, ("a", "b", "c"))
        need_table(table)
        deep = nested(("a", ()), 20, lambda inner: ("a", (inner,)))
        self.assertIs(takes(one_made(turning, ("a",)), deep), False)


if __name__ == "__main__":
    unittest.main()
