"""Point 10: texts of documents."""

import unittest

from tests.helping import Case, nested, random_forest, random_node, seeded
from turnsfit.errors import InvalidText
from turnsfit.nodetext import forest_text, read_forest, read_node, thing_text

NODE = ("list", ("one", ("item", ("x",)), ("item", ())))
SIGNS = "ab0 \"()A,"



class NodeTextTest(Case):
    def test_example(self):
        self.assertEqual((thing_text(NODE), forest_text(("", ("a", ())))), ('list("one" item("x") item())', '"" a()'))
        self.assertEqual((read_node('a(b("x 1") "")'), read_forest("")), (("a", (("b", ("x 1",)), "")), ()))

    def test_texts(self):
        self.assertEqual([thing_text(thing="a b"), thing_text(("a", ())), forest_text(forest=())], ['"a b"', "a()", ""])
        self.assertEqual([read_forest(value='"x"'), read_forest('""')], [("x",), ("",)])
        self.assertEqual(read_node(value="abcdefgh()"), ("abcdefgh", ()))
        self.assertEqual(read_forest('"' + "a" * 16 + '"'), ("a" * 16,))

    def test_no_strings(self):
        for function in (read_node, read_forest):
            for value in (None, 1, True, (), ["a()"], ("a()",)):
                self.fails(InvalidText, -1, function, value)
            self.told_for_any_value(function, InvalidText)

    def test_wrong_signs(self):
        both = (("A", 0), (" a()", 0), ("(", 0), (")", 0), ("a)", 1), ("a ", 1), ("a1()", 1), ("abcdefghi()", 8),
                ("a(()", 2), ("a( )", 2), ("a(b)", 3), ("a(b() )", 6), ('a(")', 3), ('a(""")', 4), ("a())", 3),
                ('a("' + "a" * 17 + '")', 19), ('a("A")', 3), ("a(", 2), ("a", 1), ("a(b", 3), ("a(b()", 5),
                ('a("x" ', 6), ('a("', 3), ("abcdefgh", 8), ("a(b() ", 6), ("a(b()  c())", 6), ("a(\n)", 2))
        for text, at in both:
            self.fails(InvalidText, at, read_node, text)
            self.fails(InvalidText, at, read_forest, text)
        for text, at in (("", 0), ('"x"', 0), ('""', 0), ("a() ", 3), ("a() b()", 3), ("a()a", 3)):
            self.fails(InvalidText, at, read_node, text)
        for text, at in (("a() ", 4), ('"" ', 3), (" ", 0), ('""""', 2), ("a()b()", 3), ('a()  ""', 4), ('"', 1),
                         ('"' + "a" * 17, 17), ("a() -", 4)):
            self.fails(InvalidText, at, read_forest, text)

    def test_there_and_back(self):
        chance = seeded(11)
        for _ in range(100):
            node = random_node(chance, 3)
            forest = random_forest(chance, 3)
            self.assertEqual(read_node(thing_text(node)), node)
            self.assertEqual(read_forest(forest_text(forest)), forest)

    def test_one_sign_changed(self):
        """What is told is the first sign behind which nothing goes on: ahead of it something does."""
        chance = seeded(12)
        for _ in range(60):
            text = thing_text(random_node(chance, 2))
            at = chance.randrange(len(text) + 1)
            put = chance.choice(SIGNS)
            for changed in (text[:at], text[:at] + put + text[at:], text[:at] + put + text[at + 1:],
                            text[:at] + text[at + 1:]):
                self.check_changed(read_node, changed)
                self.check_changed(read_forest, changed)

    def check_changed(self, function, text):
        try:
            thing = function(text)
        except InvalidText as wrong:
            self.assertTrue(0 <= wrong.at <= len(text))
            # Up to there the same signs are a beginning, so cut off they are told as one.
            if wrong.at and text[:wrong.at] != text:
                try:
                    function(text[:wrong.at])
                except InvalidText as cut:
                    self.assertEqual(cut.at, wrong.at)
                self.fails(InvalidText, wrong.at, function, text[:wrong.at + 1] + "a")
        else:
            self.assertEqual(thing_text(thing) if function is read_node else forest_text(thing), text)

    def test_great(self):
        deep = nested(("a", ()), 29, lambda inner: ("a", (inner,)))
        self.assertEqual(read_node(thing_text(deep)), deep)
        wide = ("a", ("b" * 16,) * 99)
        self.assertEqual(read_node(thing_text(wide)), wide)
        deeper = thing_text(nested(("a", ()), 2000, lambda inner: ("a", (inner,))))
        self.assertEqual(thing_text(read_node(deeper)), deeper)


if __name__ == "__main__":
    unittest.main()
