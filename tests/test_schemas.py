"""Point 18: schemas."""

import unittest

from tests.helping import GREAT, Case, nested, odd_values
from turnsfit.errors import InvalidSchema, NoName
from turnsfit.schemas import (Schema, formula_for, is_schema, kinds_named, kinds_of, name_for, need_schema,
                              node_names)

NONE = ("empty",)
PLAN = Schema((("all", "ul", ("star", ("one", "item"))), ("item", "li", ("text",)), ("more", "ul", NONE)), ("all",))


class SchemasTest(Case):
    def test_class(self):
        types = [1]
        self.assertIs(Schema(types=types, tops=None).types, types)
        self.assertIsNone(Schema(types, None).tops)
        self.assertTrue(Schema((), ()) == Schema((), ()))
        for other in (Schema((), (1,)), Schema([], ()), ((), ()), None, GREAT):
            self.assertTrue(Schema((), ()) != other)
        with self.assertRaises(TypeError):
            iter(PLAN)
        with self.assertRaises(TypeError):
            len(PLAN)

    def test_right_schemas(self):
        for schema in (PLAN, Schema((), ()), Schema((("a", "x", ("one", "b")), ("b", "x", NONE)), ()),
                       Schema(PLAN.types, ("all", "more"))):
            self.assertIsNone(need_schema(value=schema))
            self.assertIs(is_schema(schema), True)

    def test_wrong_schemas(self):
        a, b, c = (("a", "x", NONE), ("b", "x", ("text",)), ("c", "x", ("one", "z")))
        wrong = ((None, -1), (((), ()), -1), (Schema([], ()), -1), (Schema(None, ()), -1), (Schema((1,), 5), 0), (Schema((("A", "x", NONE),), ()), 0),
                 (Schema((("", "x", NONE),), ()), 0), (Schema(((1, "x", NONE), a), ()), 0), (Schema((("a", 1, NONE),), ()), 0),
                 (Schema((a, ("b", "x")), ()), 1), (Schema((a, ["b", "x", NONE]), ()), 1), (Schema((a, ("B", "x", NONE)), ()), 1),
                 (Schema((a, ("b", "", NONE)), ()), 1), (Schema((a, ("b", "x", ())), ()), 1), (Schema((b, a), ()), 1),
                 (Schema((a, a), ()), 1), (Schema((a, b, b + (1,)), ()), 2), (Schema((a, b, c), ()), 2),
                 (Schema((c, ("d", "x", None)), ()), 1), (Schema((a, c, ("d", "x", ("one", "y"))), 7), 1),
                 (Schema((a, b), ("c",)), 2), (Schema((a, b), ["a"]), 2), (Schema((a, b), ("b", "a")), 2),
                 (Schema((a, b), ("a", "a")), 2), (Schema((a, b), "ab"), 2), (Schema((a, b), ("",)), 2), (Schema((), ("a",)), 0),
                 (Schema((), None), 0), (Schema((a, b), (True,)), 2), (Schema((a, b), (None, 1)), 2),
                 (Schema((a, ("b", "x", ("row", (("text",), ("one", "z"))))), ("a",)), 1))
        for value, at in wrong:
            self.fails(InvalidSchema, at, need_schema, value)
            self.assertIs(is_schema(value), False)

    def test_any_value(self):
        self.told_for_any_value(need_schema, InvalidSchema)
        for value in odd_values():
            self.assertIn(is_schema(value), (True, False))
            for schema in (Schema(value, ()), Schema((), value), Schema((value,), (value,)), Schema(PLAN.types, value),
                           Schema((("a", "a", value),), value), Schema(PLAN.types, (value, value)),
                           Schema((("a", value, NONE), (value, "a", NONE)), ())):
                self.told_for_any_value(lambda _, schema=schema: need_schema(schema), InvalidSchema)
                self.assertIn(is_schema(schema), (True, False))
        deep = nested(Schema((), ()), 80, lambda inner: Schema((inner,), [inner]))
        self.fails(InvalidSchema, 0, need_schema, deep)

    def test_what_is_in_it(self):
        self.assertEqual([kinds_of(schema=PLAN), node_names(schema=PLAN)], [("all", "item", "more"), ("li", "ul")])
        self.assertEqual([name_for(schema=PLAN, kind="item"), formula_for(schema=PLAN, kind="item")], ["li", ("text",)])
        self.assertEqual([kinds_named(schema=PLAN, name="ul"), kinds_named(PLAN, "all")], [("all", "more"), ()])
        for function in (name_for, formula_for):
            self.fails(NoName, "ul", function, PLAN, "ul")
        empty = Schema((), ())
        self.assertEqual([kinds_of(empty), node_names(empty), kinds_named(empty, "a")], [(), (), ()])

    def test_great(self):
        part = ("row", tuple([("one", kind) for kind in "abcdefgh"]) * 2 + (("text",),) * 7)
        schema = Schema(tuple([(kind, "abcdefgh", part) for kind in "abcdefgh"]), tuple("abcdefgh"))
        need_schema(schema)
        self.assertEqual(kinds_named(schema, "abcdefgh"), tuple("abcdefgh"))


if __name__ == "__main__":
    unittest.main()
