"""Points 27 and 30: least tables, and the least nodes of states."""

import itertools
import unittest

from tests.helping import Case, nested, seeded
from tests.test_schematext import random_schema
from tests.test_tables import LISTS, PAIRS, all_nodes
from turnsfit.leasttables import least_states, least_table, state_nodes
from turnsfit.nodes import depth_of, least_of, names_of, size_of
from turnsfit.schemas import Schema, node_names
from turnsfit.schematext import read_schema, schema_text
from turnsfit.tables import Table, need_table, state_of, table_of, takes


def random_table(chance, names, many):
    def state():
        return chance.randrange(many)
    ends = tuple([number for number in range(many) if chance.random() < .5])
    return Table(names, tuple([state() for _ in names]), tuple([state() for _ in range(many)]),
                 tuple([tuple([state() for _ in range(many)]) for _ in range(many)]), ends)


def reached(table):
    """The states of nodes, by rounds over all of them."""
    found = set(table.begins)
    while True:
        more = found | {table.texts[one] for one in found} | {table.steps[one][other] for one in found for other in found}
        if more == found:
            return found
        found = more


def parted_pairs(table):
    """The pairs of states of which just one is taken in some frame, behind further things."""
    states = sorted(reached(table))
    pairs = {(one, other) for one in states for other in states if (one in table.ends) != (other in table.ends)}
    while True:
        more = set(pairs)
        for one, other in itertools.product(states, states):
            after = [(table.texts[one], table.texts[other])]
            for third in states:
                after.append((table.steps[one][third], table.steps[other][third]))
                after.append((table.steps[third][one], table.steps[third][other]))
            if any(pair in pairs for pair in after):
                more.add((one, other))
        if more == pairs:
            return pairs
        pairs = more


def met_in_order(table):
    """The numbers of the states as they are met, each once."""
    order = []

    def meet(state):
        if state not in order:
            order.append(state)
    for state in table.begins:
        meet(state)
    for k in range(len(table.texts)):
        if k < len(order):
            k = order[k]
            meet(table.texts[k])
            for j in order[:order.index(k) + 1]:
                meet(table.steps[j][k])
                meet(table.steps[k][j])
    return order


class LeastTablesTest(Case):
    def test_example(self):
        self.assertTrue(least_table(Schema((("a", "a", ("star", ("one", "a"))),), ("a",)))
                        == Table(("a",), (0,), (1, 1), ((0, 1), (1, 1)), (0,)))
        self.assertTrue(least_table(schema=LISTS) == Table(("item", "list"), (0, 1), (2, 3, 3, 3, 3), (
            (3, 3, 3, 3, 3), (4, 3, 4, 3, 3), (3,) * 5, (3,) * 5, (4, 3, 4, 3, 3)), (4,)))
        self.assertEqual(state_nodes(table=least_table(LISTS)), (
            ("item", ()), ("list", ()), ("item", ("",)), ("item", (("item", ()),)), ("list", (("item", ()),))))

    def test_least_states(self):
        chance = seeded(271)
        nodes = all_nodes(4, ("x", "y"))
        for _ in range(150):
            names = chance.choice((("x",), ("x", "y")))
            table = random_table(chance, names, chance.randint(1, 4))
            least = least_states(table=table)
            need_table(least)
            self.assertEqual(least.names, names)
            self.assertEqual(met_in_order(least), list(range(len(least.texts))))
            pairs = parted_pairs(least)
            for one, other in itertools.permutations(range(len(least.texts)), 2):
                self.assertIn((one, other), pairs)
            for node in chance.sample(nodes, 60):
                self.assertIs(takes(least, node), takes(table, node))

    def test_equal_if_the_same_is_taken(self):
        chance = seeded(272)
        nodes = all_nodes(5, ("x",))
        for _ in range(300):
            one, other = random_table(chance, ("x",), 2), random_table(chance, ("x",), chance.randint(1, 3))
            alike = all(takes(one, node) == takes(other, node) for node in nodes)
            self.assertIs(least_states(one) == least_states(other), alike)
        for _ in range(60):
            table = random_table(chance, ("x", "y"), 4)
            order = chance.sample(range(4), 4)
            moved = Table(table.names, tuple([order[one] for one in table.begins]),
                          tuple([order[table.texts[order.index(at)]] for at in range(4)]),
                          tuple([tuple([order[table.steps[order.index(at)][order.index(to)]] for to in range(4)]) for at in range(4)]),
                          tuple(sorted([order[one] for one in table.ends])))
            self.assertTrue(least_states(moved) == least_states(table))
            self.assertTrue(least_states(least_states(table)) == least_states(table))

    def test_tables_of_schemas(self):
        chance = seeded(273)
        nodes = all_nodes(4, ("x", "y"))
        for _ in range(60):
            schema = random_schema(chance)
            table = least_table(schema)
            self.assertEqual(table.names, node_names(schema))
            self.assertTrue(table == least_states(table_of(schema, node_names(schema))))
            self.assertEqual(met_in_order(table), list(range(len(table.texts))))
            other = table_of(schema, ("x", "y"))
            for node in chance.sample(nodes, 50):
                if set(names_of(node)) <= set(table.names):
                    self.assertIs(takes(table, node), takes(other, node), schema_text(schema))

    def test_tables_without_names_or_ends(self):
        for table in (Table((), (), (), (), ()), Table((), (), (0,), ((0,),), (0,))):
            self.assertTrue(least_states(table) == Table((), (), (), (), ()))
        self.assertTrue(least_table(Schema((), ())) == Table((), (), (), (), ()))
        nothing = Table(("x", "y"), (0, 0), (0,), ((0,),), ())
        for text in ("-, a x -, b y #", "a, a x a, b y -", "b, a x -, b y b"):
            self.assertTrue(least_table(read_schema(text)) == nothing, text)

    def test_state_nodes(self):
        chance = seeded(301)
        nodes = {names: all_nodes(5, names) for names in (("x",), ("x", "y"))}
        for _ in range(120):
            names = chance.choice((("x",), ("x", "y")))
            table = random_table(chance, names, chance.randint(1, 5))
            found = state_nodes(table)
            self.assertEqual(len(found), len(table.texts))
            known = {}
            for node in nodes[names]:
                known.setdefault(state_of(table, node), []).append(node)
            for state, node in enumerate(found):
                if state not in reached(table):
                    self.assertIsNone(node)
                    continue
                self.assertEqual(state_of(table, node), state)
                self.assertTrue(size_of(node) <= 2 ** (len(found) - 1) and depth_of(node) <= len(found))
                if size_of(node) <= 5:
                    self.assertEqual(node, least_of(known[state]))
                else:
                    self.assertNotIn(state, known)

    def test_states_of_no_node(self):
        self.assertEqual(state_nodes(Table((), (), (0,), ((0,),), (0,))), (None,))
        self.assertEqual(state_nodes(Table((), (), (), (), ())), ())
        self.assertEqual(state_nodes(Table(("a",), (1,), (0, 1, 2), ((0, 0, 0), (1, 1, 1), (2, 2, 2)), ())), (None, ("a", ()), None))
        self.assertEqual(state_nodes(PAIRS), (("a", ()), ("a", ("",))))

    def test_great(self):
        """Each state is met by the node of the one ahead, put behind itself: as great as nodes of states can be."""
        many = 8
        steps = tuple([tuple([min(one + 1, many - 1) if one == other else 0 for other in range(many)]) for one in range(many)])
        found = state_nodes(Table(("a",), (0,), (0,) * many, steps, (many - 1,)))
        self.assertEqual([size_of(node) for node in found], [2 ** at for at in range(many)])
        table = Table(("a",), (0,), (0,) * many, steps, (many - 1,))
        self.assertTrue(least_states(table) == table)
        wide = read_schema("a, a x [a b]*, b y (c? d), c x #, d y (# [c d]*)")
        self.assertEqual(len(least_table(wide).names), 2)
        deep = nested(("a", ()), 60, lambda inner: ("a", (inner,)))
        self.assertEqual(state_of(table, deep), 0)


if __name__ == "__main__":
    unittest.main()
