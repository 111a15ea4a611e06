"""Point 17: moves of rows, and rows that can be exchanged."""

import unittest

from tests.helping import Case, random_formula, rows_up_to, seeded
from tests.test_rowtables import random_table
from turnsfit.formulatext import read_formula
from turnsfit.rowsums import row_at
from turnsfit.rowtables import RowTable, accepts, behind, least_rows, rows_table
from turnsfit.swaps import all_moves, moves, returns, surroundings

TABLE = rows_table(read_formula("(a* b)"), ("a", "b"))
BARE = RowTable((), ((),), (0,))


def plain_moves(table, row):
    return tuple([behind(table, state, row) for state in range(len(table.nexts))])


class SwapsTest(Case):
    def test_example(self):
        self.assertEqual((row_at(TABLE, 2), surroundings(table=TABLE, one=("a",), other=("b",)), returns(table=TABLE, row=("b",))),
                         (("a", "a", "b"), ((), ()), (2, 1)))

    def test_moves(self):
        chance = seeded(171)
        for _ in range(60):
            table = random_table(chance, ("", "a", "b"), 5)
            for row in rows_up_to(table.letters, 3):
                self.assertEqual(moves(table=table, row=row), plain_moves(table, row))
                self.assertEqual(moves(table, list(row)), plain_moves(table, row))

    def test_all_moves(self):
        chance = seeded(172)
        for _ in range(60):
            letters = chance.choice((("a",), ("", "b")))
            table = random_table(chance, letters, 3)
            found = all_moves(table=table)
            known = {}
            for row in rows_up_to(letters, 9):
                known.setdefault(plain_moves(table, row), row)
            self.assertEqual(found[:len(known)], tuple([(told, row) for told, row in known.items()]))
            self.assertEqual(len({told for told, _ in found}), len(found))
            for told, row in found:
                self.assertEqual(plain_moves(table, row), told)
            self.assertEqual([len(row) for _, row in found], sorted([len(row) for _, row in found]))

    def test_surroundings(self):
        chance = seeded(173)
        parted = [0, 0]
        for _ in range(150):
            letters = chance.choice((("a",), ("", "b")))
            table = random_table(chance, letters, 4)
            rows = rows_up_to(letters, 2)
            one, other = chance.choice(rows), chance.choice(rows)
            around = [(ahead, after) for ahead in rows_up_to(letters, 4) for after in rows_up_to(letters, 4)
                      if accepts(table, ahead + one + after) != accepts(table, ahead + other + after)]
            found = surroundings(table, list(one), other)
            self.assertEqual(found, around[0] if around else None)
            parted[found is None] += 1
        self.assertTrue(min(parted) > 20, parted)

    def test_nothing_parts_rows_of_equal_moves(self):
        chance = seeded(174)
        for _ in range(80):
            table = least_rows(random_table(chance, ("a", "b"), 4))
            rows = rows_up_to(("a", "b"), 3)
            for _ in range(10):
                one, other = chance.choice(rows), chance.choice(rows)
                self.assertIs(surroundings(table, one, other) is None, moves(table, one) == moves(table, other))

    def test_returns(self):
        chance = seeded(175)
        for _ in range(100):
            table = random_table(chance, ("a", "b"), 7)
            row = chance.choice(rows_up_to(("a", "b"), 3))
            powers = [plain_moves(table, row * many) for many in range(40)]
            found = [(times, more) for times in range(20) for more in range(1, 20) if powers[times] == powers[times + more]]
            self.assertEqual(returns(table, row), min(found))

    def test_rows_of_no_letters_and_tables_without_ends(self):
        none = RowTable(("a",), ((1,), (0,)), ())
        self.assertEqual((moves(none, ()), returns(none, ()), returns(none, ("a",)), surroundings(none, (), ("a",))), ((0, 1), (0, 1), (0, 2), None))
        self.assertEqual((moves(BARE, []), all_moves(BARE), returns(BARE, ()), surroundings(BARE, (), ())), ((0,), (((0,), ()),), (0, 1), None))
        self.assertEqual(all_moves(none), (((0, 1), ()), ((1, 0), ("a",))))
        # States that no row leads to are moved, too, but part nothing.
        apart = RowTable(("a", "b"), ((0, 0), (0, 1)), (0,))
        self.assertEqual((surroundings(apart, ("a",), ("b",)), moves(apart, ("a",)), moves(apart, ("b",))), (None, (0, 0), (0, 1)))

    def test_great(self):
        letters = ("", "a", "b", "c", "d", "e")
        for seed in range(20):
            table = random_table(seeded(seed), letters, 4)
            self.assertTrue(len(all_moves(table)) <= 4 ** 4)
        turns = RowTable(("a", "b"), ((1, 1), (2, 0), (0, 2), (4, 4), (5, 3), (6, 5), (3, 6), (8, 8), (9, 7), (10, 9), (11, 10), (7, 11)), (0,))
        self.assertEqual(returns(turns, ("a",)), (0, 60))
        table = rows_table(random_formula(seeded(9), 3), letters)
        self.assertIsNone(surroundings(table, ("a",) * 200, ["a"] * 200))


if __name__ == "__main__":
    unittest.main()
