"""Points 14 and 15: row tables."""

import unittest

from tests.helping import GREAT, LETTERS, Case, odd_values, random_formula, rows_up_to, seeded, spelled
from turnsfit.errors import InvalidTable
from turnsfit.formulatext import read_formula
from turnsfit.rowtables import (RowTable, accepts, behind, check_least, is_row_table, least_paper, least_rows,
                                need_row_table, parting_row, rows_table, within)
from turnsfit.spots import is_plain, spots


def by_length(row):
    return (len(row), row)


def random_table(chance, letters, most):
    many = chance.randint(1, most)
    nexts = tuple([tuple([chance.randrange(many) for _ in letters]) for _ in range(many)])
    return RowTable(letters, nexts, tuple([state for state in range(many) if chance.random() < .4]))


class RowTablesTest(Case):
    def test_example(self):
        table = rows_table(read_formula("(a* b)"), ("a", "b"))
        other = rows_table(read_formula("(a? b)"), ("a", "b"))
        self.assertEqual((table.nexts, table.ends, parting_row(table, other)),
                         (((0, 1), (2, 2), (2, 2)), (1,), ("a", "a", "b")))

    def test_class(self):
        letters = ["a"]
        table = RowTable(letters=letters, nexts=None, ends=GREAT)
        self.assertIs(table.letters, letters)
        self.assertTrue(table == RowTable(["a"], None, GREAT))
        self.assertFalse(table != RowTable(["a"], None, GREAT))
        for other in (RowTable(("a",), None, GREAT), RowTable(["a"], 1, GREAT), RowTable(["a"], None, 1), (), None):
            self.assertTrue(table != other)
        with self.assertRaises(TypeError):
            len(table)
        with self.assertRaises(TypeError):
            iter(table)

    def test_right_tables(self):
        for table in (RowTable((), ((),), ()), RowTable(("", "a"), ((0, 1), (1, 0)), (0, 1)), RowTable(("",), ((0,),), (0,))):
            self.assertIsNone(need_row_table(value=table))
            self.assertIs(is_row_table(table), True)

    def test_wrong_tables(self):
        nexts = ((0, 1), (1, 1))
        wrong = ((("a", "b"), -3), (None, -3), (RowTable(["a", "b"], nexts, ()), -1), (RowTable(("b", "a"), nexts, ()), -1),
                 (RowTable(("a", "a"), nexts, ()), -1), (RowTable(("A", "b"), nexts, ()), -1), (RowTable(("a", ""), 5, 5), -1),
                 (RowTable(None, None, None), -1), (RowTable(("a", 1), nexts, ()), -1), (RowTable((), (), ()), -2),
                 (RowTable((), [()], ()), -2), (RowTable(("a", "b"), 0, ()), -2), (RowTable(("a", "b"), ((0, 1), (1,)), ()), 1),
                 (RowTable(("a", "b"), ((0, 2), (9, 9)), 5), 0), (RowTable(("a", "b"), ((0, 1), [1, 1]), ()), 1),
                 (RowTable(("a", "b"), ((0, True), (0, 0)), ()), 0), (RowTable(("a", "b"), nexts, [0]), 2),
                 (RowTable(("a", "b"), nexts, (1, 0)), 2), (RowTable(("a", "b"), nexts, (0, 0)), 2),
                 (RowTable(("a", "b"), nexts, (2,)), 2), (RowTable(("a", "b"), nexts, (False,)), 2),
                 (RowTable(("a", "b"), nexts, None), 2), (RowTable(("a", "b"), nexts, (GREAT,)), 2))
        for value, at in wrong:
            self.fails(InvalidTable, at, need_row_table, value)
            self.assertIs(is_row_table(value), False)
        self.told_for_any_value(need_row_table, InvalidTable)
        for value in odd_values():
            self.told_for_any_value(lambda part, value=value: need_row_table(RowTable(("a",), part, value)), InvalidTable)

    def test_behind(self):
        table = RowTable(("", "a"), ((0, 1), (1, 0)), (1,))
        self.assertEqual([behind(table, 0, ()), behind(table=table, state=1, row=["a", "", "a"]), behind(table, 0, ("b",)),
                          behind(table, 1, ("a", "b", "a"))], [0, 1, None, None])
        self.assertEqual([accepts(table=table, row=["a"]), accepts(table, ()), accepts(table, ("b",))], [True, False, False])

    def test_tables_of_formulas(self):
        chance = seeded(41)
        rows = rows_up_to(LETTERS, 4)
        for _ in range(80):
            formula = random_formula(chance, 3)
            table = rows_table(formula=formula, letters=LETTERS)
            need_row_table(table)
            known = spelled(formula, 4)
            self.assertEqual([row for row in rows if accepts(table, row)], [row for row in rows if row in known])
            self.assertTrue(least_rows(table=table) == table)
            self.assertLessEqual(len(table.nexts), 2 ** len(spots(formula)) + 1)
            if is_plain(formula):
                self.assertLessEqual(len(table.nexts), len(spots(formula)) + 2)
        self.assertTrue(rows_table(("empty",), ()) == RowTable((), ((),), (0,)))
        self.assertTrue(rows_table(("some", ("text",)), ("",)) == RowTable(("",), ((1,), (1,)), (1,)))

    def test_least_tables(self):
        chance = seeded(42)
        for _ in range(150):
            letters = chance.choice((("a",), ("", "b"), ("a", "b", "c")))
            one = random_table(chance, letters, 5)
            other = random_table(chance, letters, 5)
            rows = rows_up_to(letters, 4)
            least = least_rows(one)
            self.assertEqual([accepts(one, row) for row in rows], [accepts(least, row) for row in rows])
            self.assertEqual(sorted({behind(least, 0, row) for row in rows_up_to(letters, 5)}),
                             list(range(len(least.nexts))))
            found = [min([row for row in rows_up_to(letters, 5) if behind(least, 0, row) == state], key=by_length)
                     for state in range(len(least.nexts))]
            self.assertEqual(found, sorted(found, key=by_length))
            self.assertEqual(parting_row(one, other) is None, least == least_rows(other))
            self.assertEqual(parting_row(one, least), None)
            self.check_parting(one, other, rows)

    def check_parting(self, one, other, rows):
        parting = [row for row in rows if accepts(one, row) != accepts(other, row)]
        alone = [row for row in parting if accepts(one, row)]
        for found, want in ((parting_row(one=one, other=other), parting), (within(one=one, other=other), alone)):
            if want:
                self.assertEqual(found, want[0])
            elif found is not None:
                self.assertGreater(len(found), 4)
                self.assertTrue(accepts(one, found) != accepts(other, found))
        found = parting_row(one, other)
        if found is not None:
            self.assertLessEqual(len(found), len(one.nexts) + len(other.nexts) - 2)

    def test_least_papers(self):
        chance = seeded(43)
        papers = 0
        for _ in range(200):
            letters = chance.choice((("a",), ("", "b")))
            table = random_table(chance, letters, 4)
            paper = least_paper(table=table)
            many = len(table.nexts)
            self.assertEqual(paper is not None, len(least_rows(table).nexts) == many)
            if paper is None:
                continue
            papers += 1
            self.assertIs(check_least(table, paper), True)
            rows = rows_up_to(letters, 5)
            self.assertEqual(paper[0], tuple([min([row for row in rows if behind(table, 0, row) == state], key=by_length)
                                              for state in range(many)]))
            triples = [(one, other, self.first_apart(table, one, other, rows))
                       for one in range(many) for other in range(one + 1, many)]
            self.assertEqual(paper[1], tuple(triples))
        self.assertGreater(papers, 20)

    def first_apart(self, table, one, other, rows):
        return min([row for row in rows if (behind(table, one, row) in table.ends)
                    != (behind(table, other, row) in table.ends)], key=by_length)

    def test_check_least(self):
        table = rows_table(read_formula("(a* b)"), ("a", "b"))
        paper = least_paper(table)
        self.assertEqual(paper, (((), ("b",), ("b", "a")), ((0, 1, ()), (0, 2, ("b",)), (1, 2, ()))))
        rows, triples = paper
        right = (paper, ((("a",), ("a", "b"), ("b", "b", "b")), triples), (rows, triples[::-1]), (rows, triples * 2),
                 (rows, ((1, 0, ()), (2, 0, ("a", "b")), (2, 1, ()))))
        for value in right:
            self.assertIs(check_least(table=table, value=value), True)
        wrong = (list(paper), (rows,), (rows, triples, ()), (list(rows), triples), (rows, list(triples)), (rows[:2], triples),
                 (rows + ((),), triples), (([], ("b",), ("b", "a")), triples), ((("b",), ("b",), ("b", "a")), triples),
                 ((("z",), ("b",), ("b", "a")), triples), ((None, ("b",), ("b", "a")), triples), (rows, triples[:2]),
                 (rows, triples + ((0, 0, ()),)), (rows, triples + ((0, 2, ()),)), (rows, triples + ((0, 1, ("z",)),)),
                 (rows, ((0, 1, []),) + triples[1:]), (rows, ((False, True, ()),) + triples[1:]), (rows, triples + (None,)),
                 (rows, triples + ((0, 1),)), (rows, triples + ((0, 3, ()), (1, 3, ()))),
                 (rows, triples + ((1, 3, ()),)), (rows, triples + ((3, 1, ()),)), (rows, triples + ((1, None, ()),)),
                 (rows, triples + ([0, 1, ()],)))
        for value in wrong:
            self.assertIs(check_least(table, value), False, value)
        for value in odd_values():
            self.assertIs(check_least(table, value), False)
            self.assertIs(check_least(table, (rows, (value,))), False)
            self.assertIs(check_least(table, ((value,) * 3, triples)), False)
            self.assertIs(check_least(table, (rows, triples + ((0, 1, (value,)),))), False)
        self.assertIs(check_least(RowTable((), ((),), ()), (((),), ())), True)

    def test_missing_rows(self):
        self.assertIsNone(least_paper(RowTable(("a",), ((0,), (0,)), (1,))))
        self.assertIsNone(least_paper(RowTable(("a",), ((1,), (0,)), (0, 1))))
        self.assertEqual(least_paper(RowTable((), ((),), ())), (((),), ()))

    def test_great(self):
        formula = ("row", (("star", ("either", (("one", "a"), ("one", "b")))), ("one", "a"))
                   + (("either", (("one", "a"), ("one", "b"))),) * 8)
        table = rows_table(formula, ("a", "b"))
        self.assertEqual(len(table.nexts), 2 ** 9)
        self.assertTrue(accepts(table, ("b",) * 191 + ("a",) + ("b",) * 8))
        letters = ("", "a", "b", "c", "d", "e")
        one = RowTable(letters, tuple([((at + 1) % 12, at, at, at, 0, (at * 5) % 12) for at in range(12)]), (0,))
        other = RowTable(letters, tuple([((at + 1) % 11, at, at, at, 0, at) for at in range(11)]) + ((0,) * 6,), (0,))
        self.assertIs(check_least(one, least_paper(one)), True)
        self.assertIsNotNone(parting_row(one, other))
        text = "(" + " ".join("abcdef"[at % 6] for at in range(25)) + ")"
        self.assertEqual(len(rows_table(read_formula(text), letters + ("f",)).nexts), 27)


if __name__ == "__main__":
    unittest.main()
