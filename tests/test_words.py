"""Points 1 and 5: names, texts, numbers."""

import unittest

from tests.helping import GREAT, Case, odd_values
from turnsfit.words import is_name, is_number, is_text


class WordsTest(Case):
    def test_numbers(self):
        for value in (0, 1, GREAT):
            self.assertIs(is_number(value), True)
        for value in (-1, -GREAT, True, False, None, "0", (), [0]):
            self.assertIs(is_number(value), False)

    def test_names(self):
        for value in ("a", "z", "list", "abcdefgh"):
            self.assertIs(is_name(value), True)
        for value in ("", "abcdefghi", "A", "a b", "a1", "\u00e9", "a\n", 1, True, None, ("a",), ["a"]):
            self.assertIs(is_name(value), False, value)

    def test_texts(self):
        for value in ("", " ", "x 1", "0123456789abcdef", "a" * 16):
            self.assertIs(is_text(value), True)
        for value in ("a" * 17, "A", "a\n", "\t", "a-b", "\u0661", "\u00a0", 0, False, None, ("a",), ["a"], [], ()):
            self.assertIs(is_text(value), False, value)

    def test_any_value(self):
        for value in odd_values():
            for function in (is_name, is_text, is_number):
                self.assertIn(function(value=value), (True, False))


if __name__ == "__main__":
    unittest.main()
