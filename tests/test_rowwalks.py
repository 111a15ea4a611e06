"""Walks through rows, which schemas are put together of, and the search for what one schema has alone."""

import unittest

from tests.helping import LETTERS, Case, random_formula, rows_up_to, seeded, spelled
from tests.test_joined import lively_schema
from tests.test_tables import all_nodes
from turnsfit.escapes import Escapes
from turnsfit.fitting import fits, types_of
from turnsfit.nodes import least_of, size_of
from turnsfit.otherside import OtherSide
from turnsfit.leastgrowth import TEXT
from turnsfit.rowwalks import few_states, formula_between, useful, walk_of
from turnsfit.schemas import kinds_of
from turnsfit.walkschemas import schema_of_walks

NODES = all_nodes(4, ("x", "y"))


def read(walk, row):
    states = {0}
    for letter in row:
        states = {other for state in states for one, other in walk.nexts[state] if one == letter}
    return any(walk.ends[state] for state in states)


class RowWalksTest(Case):
    def test_walks(self):
        chance = seeded(11)
        rows = rows_up_to(LETTERS, 4)
        for _ in range(120):
            formula = random_formula(chance, 3)
            walk = walk_of(formula)
            told = spelled(formula, 4)
            self.assertEqual({row for row in rows if read(walk, row)}, told)
            self.assertEqual(spelled(formula_between(walk), 4), told)
            few = few_states(walk)
            self.assertEqual((few.nexts, few.ends), (walk.nexts, walk.ends))
            letters = chance.sample(LETTERS, 2)
            left = useful(walk, {letter: True for letter in letters})
            told = {row for row in told if set(row) <= set(letters)}
            if left is None:
                self.assertEqual(told, set())
            else:
                self.assertEqual({row for row in rows if read(left, row)}, told)

    def test_schemas_of_walks(self):
        chance = seeded(12)
        for _ in range(60):
            schema = lively_schema(chance)
            made = schema_of_walks([(kind, name, walk_of(formula)) for kind, name, formula in schema.types], schema.tops)
            for node in chance.sample(NODES, 60):
                self.assertIs(fits(made, node), fits(schema, node))

    def test_lots(self):
        chance = seeded(13)
        for _ in range(60):
            schema = lively_schema(chance)
            other = OtherSide(schema)

            def lot(thing):
                state = other.begin(thing[0])
                for part in thing[1]:
                    state = other.behind(state, TEXT if isinstance(part, str) else lot(part))
                return other.lot(state)
            for node in chance.sample(NODES, 40):
                kinds = kinds_of(schema)
                self.assertEqual(tuple([kind for at, kind in enumerate(kinds) if lot(node) >> at & 1]), types_of(schema, node))

    def test_escapes(self):
        chance = seeded(14)
        for _ in range(100):
            one, other = lively_schema(chance), lively_schema(chance)
            node = Escapes(one, other).least_escape()
            escaping = [each for each in NODES if fits(one, each) and not fits(other, each)]
            if node is None or size_of(node) > 4:
                self.assertEqual(escaping, [])
            else:
                self.assertEqual(node, least_of(escaping))


if __name__ == "__main__":
    unittest.main()
