"""Point 13: spots and traces."""

import itertools
import unittest

from tests.helping import GREAT, LETTERS, Case, odd_values, random_formula, rows_up_to, seeded, spelled
from turnsfit.formulas import filled, spells
from turnsfit.formulatext import read_formula
from turnsfit.spots import check_trace, clash, first_spots, is_plain, last_spots, next_spots, spots, trace


def with_spots(formula, count):
    """The formula with the number of each spot as its letter."""
    if formula[0] in ("one", "text"):
        return ("one", next(count))
    if formula[0] == "empty":
        return formula
    if formula[0] in ("row", "either"):
        return (formula[0], tuple([with_spots(part, count) for part in formula[1]]))
    return (formula[0], with_spots(formula[1], count))


def plain_clash(formula, most):
    """The first row, up to a length, that leads to two spots, by trying all rows."""
    letters = spots(formula)
    reached = {(): None}
    for _ in range(most):
        longer = {}
        for row, here in reached.items():
            after = first_spots(formula) if here is None else set().union(*[next_spots(formula)[spot] for spot in here])
            for letter in LETTERS:
                found = sorted([spot for spot in after if letters[spot] == letter])
                if found:
                    longer[row + (letter,)] = found
        for row in sorted(longer):
            if len(longer[row]) > 1:
                return (row, longer[row][0], longer[row][1])
        reached = longer
    return None


class SpotsTest(Case):
    def test_small(self):
        formula = read_formula("([a #]* a? b)")
        self.assertEqual(spots(formula=formula), ("a", "", "a", "b"))
        self.assertEqual([first_spots(formula=formula), last_spots(formula=formula)], [(0, 1, 2, 3), (3,)])
        self.assertEqual(next_spots(formula=formula), ((0, 1, 2, 3), (0, 1, 2, 3), (3,), ()))
        self.assertEqual(trace(formula=formula, row=["a", "", "a", "b"]), (0, 1, 0, 3))
        self.assertEqual([trace(formula, ()), trace(formula, ("a", "z", "b"))], [None, None])
        self.assertEqual(clash(formula=formula), (("a",), 0, 2))
        self.assertIs(is_plain(formula=formula), False)

    def test_no_letters(self):
        formula = ("star", ("empty",))
        self.assertEqual([spots(formula), first_spots(formula), last_spots(formula), next_spots(formula)], [()] * 4)
        self.assertEqual([trace(formula, ()), trace(formula, ("",)), trace(("text",), ())], [(), None, None])
        self.assertEqual([check_trace(formula, (), ()), check_trace(("text",), (), ()), check_trace(formula, ("a",), (0,))],
                         [True, False, False])
        self.assertEqual([clash(formula), is_plain(formula)], [None, True])

    def test_wrong_traces(self):
        formula = read_formula("(a b)*")
        self.assertIs(check_trace(formula=formula, row=("a", "b"), value=(0, 1)), True)
        for value in ([0, 1], (0,), (0, 1, 0), (0, 0), (1, 1), (False, True), (0, True), (0, 2), (0, -1), (0, GREAT), (),
                      None, "01", (0, None), ((0,), 1)):
            self.assertIs(check_trace(formula, ["a", "b"], value), False)
        self.assertIs(check_trace(formula, ("a",), (0,)), False)
        for value in odd_values():
            self.assertIs(check_trace(formula, ("a", "b"), value), False)

    def test_traces_by_shape(self):
        chance = seeded(31)
        rows = rows_up_to(LETTERS, 3)
        for _ in range(120):
            formula = random_formula(chance, 3)
            letters = spots(formula)
            traces = spelled(with_spots(formula, itertools.count()), 3)
            by_row = {}
            for found in traces:
                by_row.setdefault(tuple([letters[spot] for spot in found]), []).append(found)
            for row in rows:
                self.assertEqual(trace(formula, row), min(by_row[row]) if row in by_row else None)
                self.assertEqual(row in by_row, spells(formula, row))
                if len(letters) ** len(row) <= 30:
                    for value in itertools.product(range(len(letters)), repeat=len(row)):
                        self.assertEqual(check_trace(formula, row, value), value in by_row.get(row, []))

    def test_begin_go_on_and_end(self):
        chance = seeded(32)
        for _ in range(120):
            formula = random_formula(chance, 2)
            longer = spelled(with_spots(formula, itertools.count()), 7)
            self.assertEqual(first_spots(formula), tuple(sorted({found[0] for found in longer if found})))
            self.assertEqual(last_spots(formula), tuple(sorted({found[-1] for found in longer if found})))
            behind = {(one, other) for found in longer for one, other in zip(found, found[1:])}
            told = {(one, other) for one, others in enumerate(next_spots(formula)) for other in others}
            self.assertEqual(told, behind)
            for others in next_spots(formula):
                self.assertEqual(list(others), sorted(set(others)))

    def test_clashes(self):
        chance = seeded(33)
        for _ in range(200):
            formula = random_formula(chance, 3)
            found = clash(formula)
            if found is None or len(found[0]) <= 4:
                self.assertEqual(plain_clash(formula, 4), found)
            self.assertIs(is_plain(formula), found is None)
        self.assertEqual(clash(read_formula("[(b a) (a b a) (a b c a) b]")), (("a",), 2, 5))
        self.assertEqual(clash(read_formula("(a* b [(# c a) (# a c) (# a)])")), (("b", ""), 2, 5))
        self.assertEqual(clash(read_formula("((a b)* a b)")), (("a",), 0, 2))

    def test_great(self):
        formula = ("row", (("star", ("either", (("one", "a"), ("one", "b")))),) + (("maybe", ("one", "a")),) * 13)
        self.assertEqual(trace(formula, ("a",) * 200), (0,) * 200)
        self.assertEqual(clash(formula), (("a",), 0, 2))
        grown = ("empty",)
        for _ in range(300):
            grown = filled(("maybe", ("row", (("text",), ("one", "a")))), (("a", grown),))
        self.assertEqual([len(spots(grown)), clash(grown)], [300, None])
        self.assertEqual(trace(grown, ("",) * 200), tuple(range(200)))


if __name__ == "__main__":
    unittest.main()
