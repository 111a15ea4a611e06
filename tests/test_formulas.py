"""Point 11: formulas."""

import unittest

from tests.helping import GREAT, LETTERS, Case, nested, odd_values, random_formula, rows_up_to, seeded, spelled
from turnsfit.errors import InvalidFormula
from turnsfit.formulas import filled, is_formula, letters_of, need_formula, parts_of, spells, spells_none
from turnsfit.formulatext import read_formula

A = ("one", "a")


class FormulasTest(Case):
    def test_shapes(self):
        for formula in (A, ("one", "abcdefgh"), ("text",), ("empty",), ("row", (A,)), ("either", (A, ("text",))),
                        ("star", A), ("some", ("empty",)), ("maybe", ("star", A))):
            self.assertIsNone(need_formula(value=formula))
            self.assertIs(is_formula(formula), True)

    def test_wrong_shapes(self):
        for value in ((), [], "one", None, 1, ("one",), ("one", ""), ("one", "A"), ("one", "abcdefghi"), ("one", "a", "b"),
                      ("text", ""), ("empty", ()), ("row",), ("row", ()), ("row", [A]), ("row", A[:0]), ("either", ()),
                      ("either", "a"), ("star",), ("star", A, A), ("Star", A), (True,), (("text",),), ["text"], ("",)):
            self.fails(InvalidFormula, 0, need_formula, value)
            self.assertIs(is_formula(value), False)

    def test_the_first_wrong_part_is_told(self):
        self.fails(InvalidFormula, 1, need_formula, ("star", None))
        self.fails(InvalidFormula, 1, need_formula, ("row", ("one", "a")))
        self.fails(InvalidFormula, 3, need_formula, ("row", (("star", A), ("one", 1), ("one", 2))))
        self.fails(InvalidFormula, 4, need_formula, ("row", (("either", (A, A)), ("either", ()), 7)))
        self.fails(InvalidFormula, 2, need_formula, ("row", (A, ["one", "a"], A)))

    def test_any_value(self):
        self.told_for_any_value(need_formula, InvalidFormula)
        for value in odd_values():
            self.assertIn(is_formula(value), (True, False))
        self.fails(InvalidFormula, 80, need_formula, nested(GREAT, 80, lambda inner: ("star", inner)))
        need_formula(nested(A, 80, lambda inner: ("row", (inner,))))

    def test_counts(self):
        formula = read_formula("([b a]* #? -)")
        self.assertEqual([parts_of(formula), letters_of(formula)], [8, ("", "a", "b")])
        self.assertEqual([parts_of(("empty",)), letters_of(("empty",)), letters_of(("row", (A, A)))], [1, (), ("a",)])

    def test_spells_by_shape(self):
        chance = seeded(1)
        rows = rows_up_to(LETTERS, 3)
        for _ in range(150):
            formula = random_formula(chance, 3)
            known = spelled(formula, 3)
            self.assertEqual([row for row in rows if spells(formula, row)], [row for row in rows if row in known])
            self.assertEqual(spells_none(formula), () in known)
            self.assertIs(spells(formula=formula, row=["b", "b"]), ("b", "b") in known)
            self.assertIs(spells(formula, ("other",)), False)

    def test_spells_edges(self):
        self.assertEqual([spells(("empty",), ()), spells(("empty",), ("",)), spells(("text",), [""]), spells(A, ())],
                         [True, False, True, False])
        self.assertEqual([spells_none(("some", ("empty",))), spells_none(("some", A)), spells_none(("maybe", A))],
                         [True, False, True])

    def test_filled(self):
        self.assertEqual(filled(read_formula("([a b]* c?)"), (("b", ("text",)),)), read_formula("([a #]* c?)"))
        formula = read_formula("(a # [b a])")
        swapped = [["a", ("one", "b")], ("b", A), ("", ("empty",)), ("z", A)]
        self.assertEqual(filled(formula=formula, pairs=swapped), read_formula("(b - [a b])"))
        self.assertEqual([filled(formula, ()), filled(A, [("a", formula)])], [formula, formula])

    def test_filled_spells_what_can_be_cut(self):
        chance = seeded(2)
        for _ in range(80):
            formula = random_formula(chance, 2)
            given = {letter: random_formula(chance, 1) for letter in chance.sample(LETTERS, 2)}
            # A letter for which nothing at all may stand leaves rows of any length behind one row.
            if any(spells_none(part) for part in given.values()):
                continue
            want = set()
            for row in spelled(formula, 3):
                made = {()}
                for letter in row:
                    pieces = spelled(given[letter], 3) if letter in given else {(letter,)}
                    made = {one + other for one in made for other in pieces if len(one + other) <= 3}
                want |= made
            self.assertEqual(spelled(filled(formula, tuple(given.items())), 3), want)

    def test_great(self):
        many = ("row", (("star", ("either", (A, ("one", "b")))),) + (A,) + (("either", (A, ("one", "b"))),) * 8)
        self.assertEqual(parts_of(many), 30)
        row = ("a", "b") * 96 + ("a",) + ("b",) * 7
        self.assertEqual([len(row), spells(many, row), spells(many, row[:-8] + ("b",) * 8)], [200, False, False])
        self.assertTrue(spells(many, row[:-9] + ("a",) + ("b",) * 8))
        grown = A
        for _ in range(600):
            grown = filled(("row", (("maybe", A), ("text",))), (("a", grown),))
        self.assertEqual([parts_of(grown), letters_of(grown)], [1801, ("", "a")])
        self.assertTrue(spells(grown, ("a",) + ("",) * 600))
        self.assertFalse(spells(grown, ("a",) + ("",) * 599))
        need_formula(grown)


if __name__ == "__main__":
    unittest.main()
