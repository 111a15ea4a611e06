"""Points 29 and 31: tables put together, documents that part tables and schemas, schemas of tables."""

import unittest

from tests.helping import Case, seeded
from tests.test_leasttables import random_table, reached
from tests.test_schematext import random_schema
from tests.test_tables import LISTS, PAIRS, all_nodes
from turnsfit.fitting import fits
from turnsfit.leasttables import least_states, least_table
from turnsfit.nodes import least_of, names_of, size_of
from turnsfit.schemas import Schema, need_schema, node_names
from turnsfit.schematext import read_schema
from turnsfit.tables import Table, need_table, state_of, table_of, takes
from turnsfit.tablesums import (both_tables, but_tables, either_tables, other_table, parting, parting_node, schema_of, widened)

NOTHING = Table((), (), (), (), ())


class TableSumsTest(Case):
    def test_example(self):
        self.assertEqual(parting(schema=LISTS, other=Schema((("i", "item", ("maybe", ("text",))), ("l", "list", ("star", ("one", "i")))), ("l",))),
                         ("list", ()))
        self.assertIsNone(parting(LISTS, Schema(LISTS.types + (("z", "zoo", ("empty",)),), ("l",))))
        first = least_table(LISTS)
        self.assertEqual(but_tables(first, first).ends, ())

    def test_put_together(self):
        chance = seeded(291)
        nodes = {names: all_nodes(4, names) for names in (("x",), ("x", "y"))}
        for _ in range(150):
            names = chance.choice((("x",), ("x", "y")))
            one, other = random_table(chance, names, chance.randint(1, 4)), random_table(chance, names, chance.randint(1, 3))
            made = ((both_tables(one=one, other=other), lambda a, b: a and b), (either_tables(one=one, other=other), lambda a, b: a or b),
                    (but_tables(one=one, other=other), lambda a, b: a and not b), (other_table(table=one), lambda a, b: not a))
            for table, told in made:
                need_table(table)
                self.assertTrue(least_states(table) == table)
                for node in chance.sample(nodes[names], 22):
                    self.assertIs(takes(table, node), told(takes(one, node), takes(other, node)))
            self.assertTrue(other_table(other_table(one)) == least_states(one))
            self.assertTrue(both_tables(one, other) == other_table(either_tables(other_table(one), other_table(other))))

    def test_widened(self):
        chance = seeded(292)
        nodes = all_nodes(4, ("x", "y"))
        for _ in range(100):
            table = random_table(chance, ("x",), chance.randint(1, 4))
            for names in (("x", "y"), ["a", "x"], ("x",)):
                wide = widened(table=table, names=names)
                need_table(wide)
                self.assertEqual(wide.names, tuple(names))
                for node in chance.sample(nodes, 30):
                    known = set(names_of(node)) <= set(names)
                    self.assertIs(takes(wide, node), takes(table, node))
                    self.assertIs(state_of(wide, node) is not None, known)
        self.assertEqual((takes(widened(NOTHING, ("a",)), ("a", ())), widened(NOTHING, ()).names), (False, ()))
        self.assertTrue(least_states(widened(PAIRS, ("a", "b"))) == least_states(widened(widened(PAIRS, ("a",)), ("a", "b"))))

    def test_parting_nodes(self):
        chance = seeded(293)
        nodes = {names: all_nodes(5, names) for names in (("x",), ("x", "y"))}
        told = [0, 0, 0]
        for _ in range(200):
            names = chance.choice((("x",), ("x", "y")))
            one, other = random_table(chance, names, chance.randint(1, 3)), random_table(chance, names, chance.randint(1, 3))
            node = parting_node(one=one, other=other)
            parted = [each for each in nodes[names] if takes(one, each) != takes(other, each)]
            if node is None:
                self.assertEqual(parted, [])
                told[0] += 1
            elif size_of(node) <= 5:
                self.assertEqual(node, least_of(parted))
                told[1] += 1
            else:
                self.assertEqual(parted, [])
                self.assertNotEqual(takes(one, node), takes(other, node))
                told[2] += 1
            self.assertIs(node is None, least_states(one) == least_states(other))
        self.assertTrue(min(told[:2]) > 10, told)
        self.assertIsNone(parting_node(NOTHING, NOTHING))

    def test_parting(self):
        chance = seeded(294)
        nodes = all_nodes(5, ("x", "y"))
        told = [0, 0]
        for _ in range(150):
            one, other = random_schema(chance), random_schema(chance)
            node = parting(one, other)
            parted = [each for each in chance.sample(nodes, 200) if fits(one, each) != fits(other, each)]
            names = tuple(sorted(set(node_names(one) + node_names(other))))
            self.assertEqual(node, parting_node(table_of(one, names), table_of(other, names)))
            self.assertEqual(node, parting(other, one))
            if node is None:
                self.assertEqual(parted, [])
            else:
                self.assertNotEqual(fits(one, node), fits(other, node))
                self.assertTrue(not parted or least_of(parted + [node]) == node)
            told[node is None] += 1
        self.assertTrue(min(told) > 10, told)

    def test_schemas_without_types_or_documents(self):
        none = Schema((), ())
        for text in ("-, a x -", "a, a x a", "a, a x (# b), b y b"):
            self.assertIsNone(parting(none, read_schema(text)))
        self.assertEqual((parting(none, none), parting(none, LISTS)), (None, ("list", (("item", ()),))))

    def test_schemas_of_tables(self):
        chance = seeded(311)
        nodes = {names: all_nodes(4, names) for names in (("x",), ("x", "y"))}
        for _ in range(120):
            names = chance.choice((("x",), ("x", "y")))
            table = random_table(chance, names, chance.randint(1, 4))
            schema = schema_of(table=table)
            need_schema(schema)
            for node in chance.sample(nodes[names], 22):
                self.assertIs(fits(schema, node), takes(table, node))
            self.assertFalse(fits(schema, ("z", ())))
            self.assertTrue(least_states(table_of(schema, names)) == least_states(table))

    def test_tables_without_ends_and_with_states_of_no_node(self):
        for table in (NOTHING, Table((), (), (0,), ((0,),), (0,)), Table(("a",), (0,), (0,), ((0,),), ()),
                      Table(("a",), (0,), (0, 1), ((0, 0), (1, 1)), (1,))):
            schema = schema_of(table)
            need_schema(schema)
            self.assertEqual((schema.tops, fits(schema, ("a", ()))), ((), False))
        apart = Table(("a",), (1,), (0, 1), ((0, 0), (1, 1)), (0, 1))
        self.assertEqual(reached(apart), {1})
        self.assertTrue(both_tables(apart, apart) == Table(("a",), (0,), (0,), ((0,),), (0,)))
        self.assertIsNone(parting_node(apart, Table(("a",), (0,), (0,), ((0,),), (0,))))

    def test_great(self):
        names = ("a", "b", "c", "d")
        for seed in range(5):
            one, other = random_table(seeded(seed), names, 8), random_table(seeded(seed + 50), names, 8)
            both = both_tables(one, other)
            self.assertTrue(least_states(one) == either_tables(both, but_tables(one, other)))
            self.assertTrue(takes(one, parting_node(one, other)) != takes(other, parting_node(one, other)))
        many = 8
        steps = tuple([tuple([min(at + 1, many - 1) if at == to else 0 for to in range(many)]) for at in range(many)])
        great = Table(("a",), (0,), (0,) * many, steps, (many - 1,))
        self.assertEqual(size_of(parting_node(great, Table(("a",), (0,), (0,), ((0,),), ()))), 2 ** (many - 1))


if __name__ == "__main__":
    unittest.main()
