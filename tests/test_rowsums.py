"""Points 15 (its end) and 16: row tables put together, formulas of them, accepted rows and their numbers."""

import itertools
import unittest

from tests.helping import Case, random_formula, rows_up_to, seeded
from tests.test_rowtables import random_table
from turnsfit.formulas import is_formula, spells
from turnsfit.formulatext import read_formula
from turnsfit.rowsums import (both_rows, but_rows, choice, either_rows, formula_of, longest, many_choices, many_rows, number_of,
                              other_rows, rest_rows, row_at)
from turnsfit.rowtables import RowTable, accepts, least_rows, rows_table
from turnsfit.spots import spots

NONE = RowTable(("a", "b"), ((0, 0),), ())
ALL = RowTable(("a", "b"), ((0, 0),), (0,))
JUST_EMPTY = RowTable(("a",), ((1,), (1,)), (0,))
BARE = RowTable((), ((),), (0,))


class RowSumsTest(Case):
    def test_example(self):
        table = rows_table(read_formula("(a* b)"), ("a", "b"))
        self.assertEqual(row_at(table, 2), ("a", "a", "b"))

    def test_put_together(self):
        chance = seeded(151)
        for _ in range(150):
            letters = chance.choice((("a",), ("", "b"), ("a", "b"), ()))
            one, other = random_table(chance, letters, 4), random_table(chance, letters, 4)
            made = [(both_rows(one=one, other=other), lambda a, b: a and b), (either_rows(one=one, other=other), lambda a, b: a or b),
                    (but_rows(one=one, other=other), lambda a, b: a and not b), (other_rows(table=one), lambda a, b: not a)]
            rows = rows_up_to(letters, 6)
            for table, told in made:
                self.assertTrue(least_rows(table) == table)
                self.assertEqual(table.letters, letters)
                for row in rows:
                    self.assertIs(accepts(table, row), told(accepts(one, row), accepts(other, row)))
            for row in rows[:6]:
                rest = rest_rows(table=one, row=row)
                self.assertTrue(least_rows(rest) == rest)
                for behind in rows[:40]:
                    self.assertIs(accepts(rest, behind), accepts(one, row + behind))
                self.assertTrue(rest_rows(one, list(row)) == rest)

    def test_tables_that_accept_nothing(self):
        self.assertTrue(both_rows(NONE, ALL) == NONE and other_rows(ALL) == NONE and other_rows(NONE) == ALL)
        self.assertTrue(but_rows(ALL, ALL) == NONE and either_rows(NONE, NONE) == NONE and rest_rows(NONE, ("a",)) == NONE)
        self.assertEqual((formula_of(NONE), many_rows(NONE, 0), many_rows(NONE, 3), longest(NONE), row_at(NONE, 0), choice(NONE, ()),
                          many_choices(NONE, ()), number_of(NONE, ())), (None, 0, 0, -1, None, None, 0, None))

    def test_rows_of_no_letters(self):
        self.assertEqual(formula_of(JUST_EMPTY), ("empty",))
        for table in (JUST_EMPTY, BARE):
            self.assertEqual((many_rows(table, 0), many_rows(table, 1), longest(table), row_at(table, 0), row_at(table, 1),
                              number_of(table, ()), choice(table, ()), many_choices(table, ())), (1, 0, 0, (), None, 0, (), 1))
        self.assertEqual((formula_of(BARE), number_of(BARE, ("a",)), choice(BARE, (("a",),)), many_choices(BARE, [()])),
                         (("empty",), None, None, 0))

    def test_formulas(self):
        chance = seeded(161)
        for _ in range(150):
            letters = chance.choice((("a",), ("", "b"), ("a", "b"), ("", "a", "c")))
            table = random_table(chance, letters, 4) if chance.random() < .6 else rows_table(random_formula(chance, 2, letters), letters)
            formula = formula_of(table=table)
            if formula is None:
                self.assertEqual(longest(table), -1)
                continue
            self.assertTrue(is_formula(formula))
            self.assertTrue(rows_table(formula, letters) == least_rows(table))
            least = least_rows(table)
            self.assertTrue(len(spots(formula)) <= 4 ** len(least.nexts) * len(letters))
            for row in rows_up_to(letters, 4):
                self.assertIs(spells(formula, row), accepts(table, row))

    def test_numbers_of_rows(self):
        chance = seeded(162)
        for _ in range(150):
            letters = chance.choice((("a",), ("", "b"), ("a", "b")))
            table = random_table(chance, letters, 4)
            rows = rows_up_to(letters, 9)
            known = [row for row in rows if accepts(table, row)]
            for length in range(9):
                self.assertEqual(many_rows(table=table, length=length), len([row for row in known if len(row) == length]))
            most = max([len(row) for row in known], default=-1)
            self.assertEqual(longest(table=table), most if most < 4 else None)
            for number, row in enumerate(known[:40]):
                self.assertEqual(row_at(table=table, number=number), row)
                self.assertEqual(number_of(table=table, row=row), number)
            if most < 4:
                self.assertIsNone(row_at(table, len(known)))
                self.assertIsNone(row_at(table, len(known) + 50))
            for row in rows[:60] + [("z",), letters[:1] + ("z",)]:
                if row not in known:
                    self.assertIsNone(number_of(table, list(row)))

    def test_choices(self):
        chance = seeded(163)
        for _ in range(200):
            letters = chance.choice((("a",), ("", "b"), ("a", "b", "c")))
            table = random_table(chance, letters, 4)
            lots = [tuple(sorted(chance.sample(("", "a", "b", "c", "z"), chance.randint(0, 3)))) for _ in range(chance.randint(0, 4))]
            rows = [row for row in itertools.product(*lots) if accepts(table, row)]
            self.assertEqual(many_choices(table=table, lots=lots), len(rows))
            self.assertEqual(choice(table=table, lots=tuple(lots)), min(rows) if rows else None)

    def test_no_longest_row(self):
        self.assertEqual((longest(ALL), many_rows(ALL, 200), row_at(ALL, 0), row_at(ALL, 5)), (None, 2 ** 200, (), ("b", "a")))
        gap = RowTable(("a", "b"), tuple([(at + 1 if at < 11 else 0, 11 if at < 11 else 11) for at in range(12)]), (0,))
        self.assertIsNone(longest(gap))
        self.assertEqual(row_at(gap, 1)[:3], ("a", "a", "a") if many_rows(gap, 2) == 0 else row_at(gap, 1)[:3])
        cycle = RowTable(("a",), tuple([((at + 1) % 12,) for at in range(12)]), (11,))
        self.assertEqual((row_at(cycle, 3), longest(cycle)), (("a",) * 47, None))
        late = RowTable(("a",), ((1,), (2,), (3,), (3,)), (2,))
        self.assertEqual((longest(late), row_at(late, 0), row_at(late, 1)), (2, ("a", "a"), None))
        dead = RowTable(("a", "b"), ((0, 1), (1, 1)), (1,))
        self.assertEqual(longest(but_rows(dead, dead)), -1)

    def test_great(self):
        letters = ("", "a", "b", "c", "d", "e")
        chance = seeded(164)
        for _ in range(10):
            one, other = random_table(chance, letters, 12), random_table(chance, letters, 12)
            for table in (both_rows(one, other), either_rows(one, other), but_rows(one, other)):
                if longest(table) is None:
                    row = row_at(table, 200)
                    self.assertEqual(number_of(table, row), 200)
                    self.assertTrue(many_rows(table, 200) >= 0)
            self.assertTrue(many_choices(one, (letters,) * 200) == many_rows(one, 200))
            small = random_table(chance, letters, 4)
            formula = formula_of(small)
            self.assertTrue(formula is None or rows_table(formula, letters) == least_rows(small))
            row = choice(one, (letters,) * 200)
            self.assertTrue(row is None or (number_of(one, row) is not None and accepts(one, row)))


if __name__ == "__main__":
    unittest.main()
