"""Point 19: texts of schemas."""

import unittest

from tests.helping import Case, random_formula, seeded
from turnsfit.errors import InvalidSchema, InvalidText
from turnsfit.schemas import Schema, need_schema
from turnsfit.schematext import read_schema, schema_text

TEXT = "doc, doc doc (head [note par]*), head head #, note par -, par par #*"


def random_schema(chance):
    kinds = tuple("abcd")[:chance.randint(0, 4)]
    types = tuple([(kind, chance.choice(("x", "y")), random_formula(chance, 2, ("",) + kinds)) for kind in kinds])
    return Schema(types, tuple([kind for kind in kinds if chance.random() < .5]))


class SchemaTextTest(Case):
    def test_example(self):
        schema = read_schema(TEXT)
        self.assertEqual(schema.types[2], ("note", "par", ("empty",)))
        self.assertEqual(schema_text(schema), TEXT)

    def test_texts(self):
        for text, schema in (("-", Schema((), ())), ("-, a b -", Schema((("a", "b", ("empty",)),), ())),
                             ("a b, a x #, b x (b)*", Schema((("a", "x", ("text",)),
                                                              ("b", "x", ("star", ("row", (("one", "b"),))))), ("a", "b")))):
            self.assertEqual(schema_text(schema=schema), text)
            self.assertTrue(read_schema(text=text) == schema)

    def test_wrong_texts(self):
        for value in (None, 1, (), ["-"], Schema((), ())):
            self.fails(InvalidText, -1, read_schema, value)
        for text, at in (("", 0), (" ", 0), ("- ", 0), ("-,", 0), ("A", 0), ("b a", 0), ("a a", 0), ("a  b", 0), ("-a", 0),
                         ("-, ", 1), ("-, a", 1), ("-, a x", 1), ("-, a x ", 1), ("-, a x - -", 1), ("-,a x -", 0),
                         ("-, a x  -", 1), ("-, a  x -", 1), ("-, a x -, a y -", 2), ("-, b x -, a x -", 2), ("-, a X -", 1),
                         ("-, a x -,  b x -", 2), ("-, a x -, b x (", 2), ("-, a x -, b abcdefghi -", 2), ("-, a x #, ", 2),
                         ("z, a x, b y", 1), ("a, - x -", 1)):
            self.fails(InvalidText, at, read_schema, text)
        self.told_for_any_value(read_schema, InvalidText, InvalidSchema)

    def test_errors_of_schemas_come_behind(self):
        for text, at in (("a", 0), ("b, a x -", 1), ("-, a x b", 0), ("z, a x #, b y [a c]", 1), ("a b, a x -", 1)):
            self.fails(InvalidSchema, at, read_schema, text)

    def test_there_and_back(self):
        chance = seeded(51)
        for _ in range(150):
            schema = random_schema(chance)
            text = schema_text(schema)
            self.assertTrue(read_schema(text) == schema)
            at = chance.randrange(len(text) + 1)
            put = chance.choice("ab#-()[]*, ")
            for changed in (text[:at], text[:at] + put + text[at:], text[:at] + put + text[at + 1:],
                            text[:at] + text[at + 1:]):
                try:
                    found = read_schema(changed)
                except (InvalidText, InvalidSchema) as wrong:
                    self.assertTrue(0 <= wrong.at <= changed.count(", "))
                else:
                    need_schema(found)
                    self.assertEqual(schema_text(found), changed)

    def test_great(self):
        formula = "(" * 30 + "#" + "*+?" * 10 + ")" * 30
        text = "a, " + ", ".join([kind + " abcdefgh " + formula for kind in "abcdefgh"])
        self.assertEqual(schema_text(read_schema(text)), text)


if __name__ == "__main__":
    unittest.main()
