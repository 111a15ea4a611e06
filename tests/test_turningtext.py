"""Point 47: texts of turnings."""

import unittest

from tests.helping import Case, seeded
from tests.test_turnings import random_turning
from turnsfit.errors import InvalidText
from turnsfit.turnings import Turning, need_turning
from turnsfit.turningtext import read_turning, turning_text


class TurningTextTest(Case):
    def test_texts(self):
        for text, turning in (("a", Turning((), "a")), ("a, b # -", Turning((("b", "", ()),), "a")),
                              ('a, a # * "" n(*), a x -, b y !a', Turning((
                                  ("a", "", (("keep",), ("say", ""), ("node", "n", (("keep",),)))), ("a", "x", ()),
                                  ("b", "y", (("go", "a"),))), "a")),
                              ('k, k x y() "a b" z(!k !k y("1"))', Turning((("k", "x", (
                                  ("node", "y", ()), ("say", "a b"), ("node", "z", (
                                      ("go", "k"), ("go", "k"), ("node", "y", (("say", "1"),)))))),), "k"))):
            self.assertEqual(turning_text(turning=turning), text)
            self.assertTrue(read_turning(text=text) == turning)

    def test_wrong_texts(self):
        for value in (None, 1, (), ["a"], Turning((), "a")):
            self.fails(InvalidText, -1, read_turning, value)
        for text, at in (("", 0), ("A", 0), ("a ", 0), ("a,", 0), ("-", 0), ("a b", 0), ("abcdefghi", 0), ("a, ", 1), ("a, a", 1),
                         ("a, a x", 1), ("a, a x ", 1), ("a, a # !a", 1), ("a, a x *", 1), ("a, a x n(*)", 1), ("a, a # n(!a)", 1),
                         ("a, a x !", 1), ("a, a x !A", 1), ("a, a x !abcdefghi", 1), ("a, a x y", 1), ("a, a x y(", 1),
                         ("a, a x y(-)", 1), ("a, a x y(() ", 1), ("a, a x y( )", 1), ("a, a x y())", 1), ("a, a x y()z()", 1),
                         ("a, a x  -", 1), ("a,  a x -", 1), ("a, a x - ", 1), ("a, a x - !a", 1), ('a, a x "', 1), ("a, - x -", 1),
                         ('a, a x "aaaaaaaaaaaaaaaaa"', 1), ('a, a x "A"', 1), ('a, a x ""!a', 1), ("a, a x !a!a", 1),
                         ("a, a x -, a x -", 2), ("a, b x -, a x -", 2), ("a, a x -, a # -", 2), ("a, a x -, b", 2),
                         ("a, a X -, b", 1), ("a, a - -", 1), ("a, a abcdefghi -", 1), ("a, a x abcdefghi()", 1), ("a,a x -", 0),
                         ("a, a x !a ", 1), ("a, a x (!a)", 1), ("a, a # **", 1)):
            self.fails(InvalidText, at, read_turning, text)
        self.told_for_any_value(read_turning, InvalidText)

    def test_there_and_back(self):
        chance = seeded(101)
        for _ in range(150):
            turning = random_turning(chance)
            text = turning_text(turning)
            self.assertTrue(read_turning(text) == turning)
            at = chance.randrange(len(text) + 1)
            put = chance.choice('ab#-()!*", 1A')
            for changed in (text[:at], text[:at] + put + text[at:], text[:at] + put + text[at + 1:],
                            text[:at] + text[at + 1:]):
                try:
                    found = read_turning(changed)
                except InvalidText as wrong:
                    self.assertTrue(0 <= wrong.at <= changed.count(", "))
                    # Up to the wrong piece all is right.
                    need_turning(read_turning(", ".join(changed.split(", ")[:wrong.at]) or "a"))
                else:
                    need_turning(found)
                    self.assertEqual(turning_text(found), changed)

    def test_great(self):
        for parts in ("x(" * 30 + ")" * 30, " ".join(["!abcdefgh"] * 40), "x(" * 2000 + '"t"' + ")" * 2000):
            text = "a, a x " + parts
            self.assertEqual(turning_text(read_turning(text)), text)


if __name__ == "__main__":
    unittest.main()
