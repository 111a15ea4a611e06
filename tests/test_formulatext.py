"""Point 12: texts of formulas."""

import unittest

from tests.helping import Case, random_formula, seeded
from turnsfit.errors import InvalidText
from turnsfit.formulas import filled
from turnsfit.formulatext import formula_text, read_formula


class FormulaTextTest(Case):
    def test_example(self):
        self.assertEqual(formula_text(filled(read_formula("([a b]* c?)"), (("b", ("text",)),))), "([a #]* c?)")

    def test_texts(self):
        a = ("one", "a")
        for text, formula in (("a", a), ("#", ("text",)), ("-", ("empty",)), ("(a)", ("row", (a,))),
                              ("[a #]", ("either", (a, ("text",)))), ("a*", ("star", a)), ("a+", ("some", a)),
                              ("a?", ("maybe", a)), ("a*+?", ("maybe", ("some", ("star", a)))),
                              ("((a)* -)?", ("maybe", ("row", (("star", ("row", (a,))), ("empty",)))))):
            self.assertEqual(formula_text(formula=formula), text)
            self.assertEqual(read_formula(text=text), formula)

    def test_wrong_texts(self):
        for value in (None, 1, True, (), ["a"], ("one", "a")):
            self.fails(InvalidText, -1, read_formula, value)
        for text, at in (("", 0), (" ", 0), ("*", 0), ("A", 0), (")", 0), ("a b", 1), ("a)", 1), ("()", 1), ("( a)", 1),
                         ("(a )", 3), ("(a]", 2), ("[a)", 2), ("(a", 2), ("(", 1), ("[", 1), ("(a ", 3), ("a*b", 2),
                         ("##", 1), ("#a", 1), ("abcdefghi", 8), ("(a  b)", 3), ("(ab(c))", 3), ("a1", 1), ("a* ", 2),
                         ("([a b] c", 8), ("a\n", 1), ("-#", 1), ("(a,b)", 2)):
            self.fails(InvalidText, at, read_formula, text)
        self.told_for_any_value(read_formula, InvalidText)

    def test_there_and_back(self):
        chance = seeded(21)
        for _ in range(200):
            formula = random_formula(chance, 3)
            self.assertEqual(read_formula(formula_text(formula)), formula)

    def test_one_sign_changed(self):
        chance = seeded(22)
        for _ in range(200):
            text = formula_text(random_formula(chance, 3))
            at = chance.randrange(len(text) + 1)
            put = chance.choice("ab#-()[]*+? A1")
            for changed in (text[:at], text[:at] + put + text[at:], text[:at] + put + text[at + 1:],
                            text[:at] + text[at + 1:]):
                try:
                    self.assertEqual(formula_text(read_formula(changed)), changed)
                except InvalidText as wrong:
                    self.assertTrue(0 <= wrong.at <= len(changed))
                    if wrong.at < len(changed):
                        self.fails(InvalidText, wrong.at, read_formula, changed[:wrong.at + 1] + ")")
                    self.check_beginning(changed[:wrong.at])

    def check_beginning(self, text):
        """What was right so far leads on to the text of a formula: a part, if one is due, and the brackets closed."""
        left = ""
        for sign in text:
            if sign in "([":
                left = (")" if sign == "(" else "]") + left
            elif sign in ")]":
                left = left[1:]
        ends = [text + part + left for part in ("", "a")]
        for end in ends:
            try:
                read_formula(end)
                return
            except InvalidText:
                pass
        self.fail(text)

    def test_great(self):
        for text in ("(" * 30 + "a" + ")" * 30, "a" + "*+?" * 10, "[" + " ".join(["abcdefgh"] * 200) + "]"):
            self.assertEqual(formula_text(read_formula(text)), text)
        deep = "[" * 3000 + "a" + "]" * 3000
        self.assertEqual(formula_text(read_formula(deep)), deep)


if __name__ == "__main__":
    unittest.main()
