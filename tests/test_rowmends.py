"""Point 74: rows mended."""

import itertools
import unittest

from tests.helping import GREAT, Case, odd_values, rows_up_to, seeded
from tests.test_rowtables import random_table
from turnsfit.formulatext import read_formula
from turnsfit.rowmends import check_prices, row_cost, row_prices, row_steps
from turnsfit.rowtables import RowTable, accepts, behind, rows_table
from turnsfit.words import is_number

TABLE = rows_table(read_formula("(a [b #]*)"), ("", "a", "b"))


def least_sum(costs):
    known = [cost for cost in costs if cost is not None]
    return min(known) if known else None


def plus(one, other):
    return None if one is None or other is None else one + other


def cost_to_row(letters, drops, puts, keeps, row):
    """The least cost of steps through all things that read just this row."""
    if not drops and not row:
        return 0
    found = []
    if drops:
        found.append(plus(drops[-1], cost_to_row(letters, drops[:-1], puts, keeps[:-1], row)))
    if row:
        at = letters.index(row[-1])
        found.append(plus(puts[at], cost_to_row(letters, drops, puts, keeps, row[:-1])))
        if drops:
            found.append(plus(keeps[-1][at], cost_to_row(letters, drops[:-1], puts, keeps[:-1], row[:-1])))
    return least_sum(found)


def random_costs(chance, letters, things):
    drops = [chance.randint(0, 3) for _ in range(things)]
    puts = [chance.choice((None, 1, 2, 3)) for _ in letters]
    keeps = [[chance.choice((None, 0, 1, 2)) for _ in letters] for _ in range(things)]
    return drops, puts, keeps


def run_steps(table, drops, puts, keeps, steps):
    """What steps cost, and the row that they read; checks that they go through all things."""
    cost, row, at = 0, (), 0
    for step in steps:
        if step[0] == "drop":
            cost += drops[at]
        elif step[0] == "put":
            cost += puts[table.letters.index(step[1])]
        else:
            cost += keeps[at][table.letters.index(step[1])]
        at += step[0] != "put"
        row += step[1:]
    assert at == len(drops)
    return cost, row


class RowMendsTest(Case):
    def test_against_a_plain_search(self):
        chance = seeded(741)
        nothing = 0
        for _ in range(120):
            letters = chance.choice((("",), ("a",), ("", "b"), ("a", "b")))
            table = random_table(chance, letters, 3)
            drops, puts, keeps = random_costs(chance, letters, chance.randint(0, 3))
            # With three states at most a row as short as this has the least cost to each.
            rows = rows_up_to(letters, len(drops) * 3 + 2) if len(letters) == 1 else rows_up_to(letters, min(len(drops) * 3 + 2, 6))
            prices = []
            for many in range(len(drops) + 1):
                by_state = [[] for _ in table.nexts]
                for row in rows:
                    by_state[behind(table, 0, row)].append(cost_to_row(letters, drops[:many], puts, keeps[:many], row))
                prices.append(tuple([least_sum(costs) for costs in by_state]))
            told = row_prices(table=table, drops=drops, puts=puts, keeps=keeps)
            self.assertEqual(told[:2], tuple(prices)[:2])
            if len(letters) == 1:
                self.assertEqual(told, tuple(prices))
            least = least_sum([told[-1][end] for end in table.ends])
            nothing += least is None
            self.assertEqual(row_cost(table=table, drops=tuple(drops), puts=tuple(puts), keeps=tuple(keeps)), least)
            steps = row_steps(table=table, drops=drops, puts=puts, keeps=keeps)
            self.assertIs(steps is None, least is None)
            if steps is not None:
                cost, row = run_steps(table, drops, puts, keeps, steps)
                self.assertEqual(cost, least)
                self.assertTrue(accepts(table, row) and isinstance(steps, tuple))
            self.assertIs(check_prices(table=table, drops=drops, puts=puts, keeps=keeps, value=told), True)
        self.assertTrue(10 < nothing < 110)

    def test_check_prices(self):
        """A value is taken just if no step leads to what is greater by more than its cost."""
        chance = seeded(742)
        taken = 0
        for _ in range(4000):
            table = random_table(chance, ("a",), 2)
            drops, puts, keeps = random_costs(chance, ("a",), chance.randint(0, 2))
            if chance.random() < .2:
                puts = [0]
            many = len(table.nexts)
            value = [[chance.choice((None, 0, 0, 1, 2)) for _ in range(many)] for _ in range(len(drops) + 1)]
            value[0][0] = 0
            right = True
            for at, state in itertools.product(range(len(drops) + 1), range(many)):
                steps = [(at, table.nexts[state][0], puts[0])]
                if at < len(drops):
                    steps += [(at + 1, state, drops[at]), (at + 1, table.nexts[state][0], keeps[at][0])]
                for layer, other, cost in steps:
                    if value[at][state] is not None and cost is not None:
                        price = value[layer][other]
                        right = right and price is not None and price <= value[at][state] + cost
            taken += right
            self.assertIs(check_prices(table, drops, puts, keeps, tuple([tuple(row) for row in value])), right)
        self.assertTrue(taken > 200)

    def test_no_steps_cost_less(self):
        chance = seeded(743)
        for _ in range(200):
            table = random_table(chance, ("a", "b"), 3)
            drops, puts, keeps = random_costs(chance, ("a", "b"), 3)
            told = row_prices(table, drops, puts, keeps)
            lower = [[price if price is None else max(0, price - chance.randint(0, 1)) for price in row] for row in told]
            value = tuple([tuple(row) for row in lower])
            if check_prices(table, drops, puts, keeps, value):
                for row, prices in zip(value, told):
                    self.assertTrue(all(low is None and price is None or low <= price for low, price in zip(row, prices)))

    def test_wrong_values(self):
        drops, puts, keeps = (1, 2), (1, 3, None), ((None, 0, 1), (0, None, None))
        right = row_prices(TABLE, drops, puts, keeps)
        self.assertEqual(len(TABLE.nexts), 3)
        self.assertIs(check_prices(TABLE, drops, puts, keeps, right), True)
        for value in (list(right), right[:2], right + (right[0],), (right[0], list(right[1]), right[2]), (right[0][:2],) + right[1:],
                      (tuple([None] * 3),) + right[1:], ((1,) + right[0][1:],) + right[1:], ((False,) + right[0][1:],) + right[1:],
                      right[:2] + ((True,) + right[2][1:],), right[:2] + ((-1,) + right[2][1:],), right[:2] + (("",) + right[2][1:],),
                      right[:2] + ((right[2][0] + 1,) + right[2][1:],), right[:2] + ((None,) + right[2][1:],), right[::-1],
                      right[:2] + ((GREAT,) + right[2][1:],)):
            self.assertIs(check_prices(TABLE, drops, puts, keeps, value), False, value)

    def test_any_value(self):
        drops, puts, keeps = (1,), (1, 3, None), ((None, 0, 1),)
        for value in odd_values():
            for prices in (value, (value, value), ((0, value, value), (value, 0, 0)), ((value, 0, 0), (0, 0, 0))):
                told = check_prices(TABLE, drops, puts, keeps, prices)
                self.assertIn(told, (True, False) if is_number(value) else (False,), prices)

    def test_none_and_nothing(self):
        ends_never = RowTable(("a",), ((0,),), ())
        self.assertEqual((row_cost(ends_never, (), (1,), ()), row_steps(ends_never, (), (1,), ())), (None, None))
        self.assertEqual((row_cost(TABLE, (), (1, None, 1), ()), row_steps(TABLE, (), (1, None, 1), ())), (None, None))
        self.assertEqual((row_cost(TABLE, (), (1, 5, 1), ()), row_steps(TABLE, (), (1, 5, 1), ())), (5, (("put", "a"),)))
        bare = RowTable((), ((),), (0,))
        self.assertEqual((row_cost(bare, (0, 2), (), ((), ())), row_steps(bare, (0, 2), (), ((), ()))), (2, (("drop",), ("drop",))))
        self.assertEqual((row_cost(bare, (), (), ()), row_steps(bare, (), (), ()), row_prices(bare, (), (), ())), (0, (), ((0,),)))
        self.assertEqual(row_prices(bare, (0, 2), (), ((), ())), ((0,), (0,), (2,)))

    def test_great(self):
        chance = seeded(744)
        letters = ("", "a", "b", "c", "d", "e")
        for _ in range(20):
            table = random_table(chance, letters, 12)
            drops = [chance.randint(0, 1000) for _ in range(12)]
            puts = [chance.choice((None, chance.randint(1, 1000))) for _ in letters]
            keeps = [[chance.choice((None, chance.randint(0, 1000))) for _ in letters] for _ in drops]
            cost, steps = row_cost(table, drops, puts, keeps), row_steps(table, drops, puts, keeps)
            if steps is not None:
                told, row = run_steps(table, drops, puts, keeps, steps)
                self.assertEqual((told, accepts(table, row)), (cost, True))
            self.assertTrue(check_prices(table, drops, puts, keeps, row_prices(table, drops, puts, keeps)))


if __name__ == "__main__":
    unittest.main()
