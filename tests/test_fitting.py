"""Points 20 and 21: givings, typings and lots."""

import itertools
import unittest

from tests.helping import LETTERS, Case, nested, odd_values, random_formula, seeded
from tests.test_schematext import random_schema
from tests.test_tables import all_nodes
from turnsfit.fitting import (check_giving, check_typing, chosen_row, fits, giving_of, lot_of_thing, types_of, types_over,
                              typing_of, typings_of)
from turnsfit.formulas import spells
from turnsfit.schemas import Schema, kinds_of
from turnsfit.schematext import read_schema

SCHEMA = read_schema("doc, doc doc (head [note par]*), head head #, note par -, par par #*")
NODE = ("doc", (("head", ("a",)), ("par", ()), ("par", ("x",))))


def all_givings(schema, node):
    """All givings of a node, ascending, straight from what a giving is."""
    found = []
    choices = [[""] if isinstance(thing, str) else all_givings(schema, thing) for thing in node[1]]
    for parts in itertools.product(*choices):
        row = [part if part == "" else part[0] for part in parts]
        found.extend([(kind, parts) for kind, name, formula in schema.types if name == node[0] and spells(formula, row)])
    return sorted(found)


def all_typings(schema, node):
    return [giving for giving in all_givings(schema, node) if giving[0] in schema.tops]


class FittingTest(Case):
    def test_example(self):
        self.assertEqual((SCHEMA.types[2], types_of(SCHEMA, ("par", ())), len(typings_of(SCHEMA, NODE, 9))),
                         (("note", "par", ("empty",)), ("note", "par"), 2))
        self.assertEqual(typing_of(SCHEMA, NODE), ("doc", (("head", ("",)), ("note", ()), ("par", ("",)))))

    def test_against_a_plain_search(self):
        chance = seeded(201)
        nodes = all_nodes(4, ("x", "y")) + [("x", (("x", ()),) * many) for many in range(4)] * 9
        many = {0: 0, 1: 0, 2: 0}
        for _ in range(160):
            schema = random_schema(chance)
            for node in chance.sample(nodes, 60):
                givings = all_givings(schema, node)
                typings = [giving for giving in givings if giving[0] in schema.tops]
                many[min(len(typings), 2)] += 1
                self.assertIs(fits(schema, node), bool(typings))
                self.assertEqual(typing_of(schema, node), typings[0] if typings else None)
                self.assertEqual(types_of(schema, node), tuple(sorted({giving[0] for giving in givings})))
                for most in (0, 1, 2, 3, 1000):
                    self.assertEqual(typings_of(schema, node, most), tuple(typings[:most]))
                for kind in kinds_of(schema) + ("none",):
                    own = [giving for giving in givings if giving[0] == kind]
                    self.assertEqual(giving_of(schema, node, kind), own[0] if own else None)
                for giving in givings:
                    self.assertIs(check_giving(schema, node, giving), True)
                    self.assertIs(check_typing(schema, node, giving), giving[0] in schema.tops)
                    self.assertIs(check_giving(schema, ("z", node[1]), giving), False)
        self.assertTrue(min(list(many.values())) > 10, many)

    def test_parameters(self):
        self.assertTrue(fits(schema=SCHEMA, node=NODE) and check_giving(schema=SCHEMA, node=NODE, value=typing_of(
            schema=SCHEMA, node=NODE)))
        self.assertEqual(giving_of(schema=SCHEMA, node=("par", ("a",)), kind="par"), ("par", ("",)))
        self.assertEqual(types_over(schema=SCHEMA, name="par", lots=[]), ("note", "par"))
        self.assertEqual(chosen_row(formula=("text",), lots=[("", "a")]), ("",))
        self.assertEqual((lot_of_thing(schema=SCHEMA, thing="x"), lot_of_thing(SCHEMA, ("par", ())), lot_of_thing(SCHEMA, ("no", ()))),
                         (("",), ("note", "par"), ()))

    def test_schemas_without_types_or_tops(self):
        for schema in (Schema((), ()), Schema(SCHEMA.types, ())):
            self.assertEqual((fits(schema, NODE), typing_of(schema, NODE), typings_of(schema, NODE, 5)), (False, None, ()))
        self.assertEqual((types_of(Schema((), ()), NODE), giving_of(Schema((), ()), NODE, "doc")), ((), None))
        self.assertEqual(types_of(Schema(SCHEMA.types, ()), NODE), ("doc",))

    def test_wrong_values(self):
        right = typing_of(SCHEMA, NODE)
        self.assertIs(check_typing(SCHEMA, NODE, right), True)
        head, note, par = right[1]
        for value in (list(right), ("doc", list(right[1])), ("doc", (head, note)), ("doc", (head, note, par, "")), right + ((),),
                      ("par", right[1]), ("none", right[1]), ("doc", (head, note, ("par", ()))), ("doc", (head, par, par)),
                      ("doc", (head, note, note)), ("doc", (("head", ("x",)), note, par)), ("doc", (head, ["note", ()], par)),
                      ("doc", ("head", note, par)), ("doc", ("", note, par)), ("doc", (("",), note, par)), ("doc",), (), "doc",
                      (("doc",), right[1]), (True, right[1]), ("doc", "abc"), ("doc", (head, (None, ()), par))):
            self.assertIs(check_giving(SCHEMA, NODE, value), False, value)
            self.assertIs(check_typing(SCHEMA, NODE, value), False, value)
        self.assertIs(check_giving(SCHEMA, ("par", ()), ("note", ())), True)
        self.assertIs(check_typing(SCHEMA, ("par", ()), ("note", ())), False)

    def test_any_value(self):
        for value in odd_values():
            for giving in (value, ("doc", value), (value, ()), ("doc", (value, value, value)), ("doc", (("head", value), value, ()))):
                self.assertIs(check_giving(SCHEMA, NODE, giving), False)
                self.assertIs(check_typing(SCHEMA, NODE, giving), False)

    def test_chosen_rows(self):
        chance = seeded(202)
        for _ in range(150):
            formula = random_formula(chance, 2)
            lots = [tuple(sorted(chance.sample(LETTERS + ("z",), chance.randint(0, 3)))) for _ in range(chance.randint(0, 4))]
            rows = [row for row in itertools.product(*lots) if spells(formula, row)]
            self.assertEqual(chosen_row(formula, lots), min(rows) if rows else None)
            schema = Schema((("a", "x", formula), ("b", "x", ("empty",)), ("c", "y", formula)), ())
            told = tuple([kind for kind, told in (("a", rows), ("b", not lots)) if told])
            self.assertEqual((types_over(schema, "x", tuple(lots)), types_over(schema, "z", lots)), (told, ()))

    def test_from_below(self):
        chance = seeded(203)
        for _ in range(60):
            schema = random_schema(chance)
            for node in chance.sample(all_nodes(4, ("x", "y")), 20):
                lots = [lot_of_thing(schema, thing) for thing in node[1]]
                self.assertEqual(types_of(schema, node), types_over(schema, node[0], lots))

    def test_great(self):
        many = ", ".join([kind + " x ([" + " ".join("abcdefgh") + "]* #? [" + " ".join("abcdefgh") + "]*)" for kind in "abcdefgh"])
        schema = read_schema("a b c, " + many)
        wide = ("x", (("x", (("x", ()),) * 9),) * 19)
        self.assertEqual(len(typings_of(schema, wide, 500)), 500)
        self.assertEqual(types_of(schema, wide), tuple("abcdefgh"))
        self.assertTrue(check_typing(schema, wide, typings_of(schema, wide, 300)[-1]))
        deep = nested(("x", ("",)), 400, lambda inner: ("x", (inner,)))
        self.assertEqual(typing_of(schema, deep)[0], "a")
        self.assertTrue(check_typing(schema, deep, typing_of(schema, deep)))
        single = read_schema("a, a x (b* c b*), b y -, c y -")
        row = ("x", (("y", ()),) * 199)
        found = typings_of(single, row, 1000)
        self.assertEqual((len(found), list(found)), (199, sorted(found)))


if __name__ == "__main__":
    unittest.main()
