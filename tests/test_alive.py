"""Points 40 and 41: types that are alive."""

import unittest

from tests.helping import Case, LETTERS, odd_values, random_formula, seeded, spelled
from tests.test_schematext import random_schema
from tests.test_tables import all_nodes, types_of
from turnsfit.alive import alive_types, check_dead, check_order, is_empty, lessened, order_paper, trimmed
from turnsfit.formulas import need_formula
from turnsfit.schemas import formula_for, kinds_of, name_for, need_schema
from turnsfit.schematext import read_schema, schema_text

PLAN = read_schema("doc, doc doc (head [par old]*), head head #, old box (par old+), par par #")
NODES = all_nodes(5, ("x", "y"))


def parts_used(schema, node, kind):
    """All types that stand in some giving of a node with a type."""
    lots = [("",) if isinstance(thing, str) else types_of(schema, thing) for thing in node[1]]
    rows = [row for row in spelled(formula_for(schema, kind), len(lots)) if len(row) == len(lots)
            and all(letter in lot for letter, lot in zip(row, lots))]
    used = {kind} if rows else set()
    for row in rows:
        for letter, thing in zip(row, node[1]):
            if letter:
                used |= parts_used(schema, thing, letter)
    return used


class AliveTest(Case):
    def test_example(self):
        self.assertEqual((alive_types(PLAN), order_paper(PLAN), check_dead(PLAN, ("old",)), trimmed(PLAN).tops),
                         (("doc", "head", "par"), ("head", "par", "doc"), True, ("doc",)))

    def test_lessened(self):
        chance = seeded(71)
        for _ in range(200):
            formula = random_formula(chance, 3)
            gone = chance.sample(LETTERS, chance.randint(0, 3))
            found = lessened(formula=formula, letters=gone)
            want = {row for row in spelled(formula, 4) if not set(row) & set(gone)}
            if found is None:
                self.assertEqual(want, set())
            else:
                need_formula(found)
                self.assertEqual(spelled(found, 4), want)
            self.assertEqual(lessened(formula, tuple(gone)), found)
        self.assertIsNone(lessened(("one", "a"), ("a",)))
        self.assertIsNone(lessened(("some", ("text",)), [""]))
        self.assertEqual(spelled(lessened(("star", ("one", "a")), ("a",)), 2), {()})

    def test_rounds(self):
        schema = read_schema("-, a x c, b x -, c x (b #), d x [d b], e x (e #), f x [a d], g x #*")
        self.assertEqual(order_paper(schema=schema), ("b", "g", "c", "d", "a", "f"))
        self.assertEqual(alive_types(schema=schema), ("a", "b", "c", "d", "f", "g"))
        self.assertEqual([order_paper(read_schema("-")), alive_types(read_schema("-, a x a"))], [(), ()])

    def test_check_order(self):
        for value, right in (((), True), (("par",), True), (("par", "head", "doc"), True), (("head", "doc", "par"), True),
                             (("doc", "head"), False), (("head", "head"), False), (["head"], False), (("none",), False),
                             (("head", "par", "old"), False), (("head", None), False), (("old",), False), ("head", False)):
            self.assertIs(check_order(schema=PLAN, value=value), right, value)

    def test_check_dead(self):
        more = read_schema("-, a x b, b x a, c x (a #), d x [a #], e x -")
        for value, right in (((), True), (("a", "b"), True), (("b", "a", "a"), True), (("a",), False), (("a", "b", "c"), True),
                             (("a", "b", "d"), False), (("e",), False), (["a", "b"], False), (("a", "b", "z"), False),
                             (("c", "a", "b"), True), (("c",), False), (None, False)):
            self.assertIs(check_dead(schema=more, value=value), right, value)

    def test_any_value(self):
        for value in odd_values():
            self.assertIs(check_order(PLAN, value), value == ())
            self.assertIs(check_dead(PLAN, value), value == ())
            self.assertIs(check_order(PLAN, (value,)), False)
            self.assertIs(check_dead(PLAN, ("old", value)), False)

    def test_against_all_small_nodes(self):
        chance = seeded(72)
        for _ in range(60):
            schema = random_schema(chance)
            alive = alive_types(schema)
            seen = {kind for node in NODES for kind in types_of(schema, node)}
            self.assertLessEqual(seen, set(alive))
            self.assertEqual(tuple(sorted(order_paper(schema))), alive)
            self.assertTrue(check_order(schema, order_paper(schema)))
            self.assertTrue(check_dead(schema, tuple([kind for kind in kinds_of(schema) if kind not in alive])))
            self.assertEqual(is_empty(schema=schema), not set(alive) & set(schema.tops))
            self.check_trimmed(schema)

    def check_trimmed(self, schema):
        less = trimmed(schema=schema)
        need_schema(less)
        used = set()
        for node in NODES[:250]:
            tops = [kind for kind in types_of(schema, node) if kind in schema.tops]
            self.assertEqual([kind for kind in types_of(less, node) if kind in less.tops], tops, schema_text(schema))
            for kind in tops:
                used |= parts_used(schema, node, kind)
        self.assertLessEqual(used, set(kinds_of(less)))
        self.assertEqual(less.tops, tuple([kind for kind in schema.tops if kind in alive_types(schema)]))
        self.assertEqual(alive_types(less), kinds_of(less))
        for kind in kinds_of(less):
            self.assertEqual(name_for(less, kind), name_for(schema, kind))
            rows = {row for row in spelled(formula_for(schema, kind), 3) if set(row) <= set(kinds_of(less)) | {""}}
            self.assertEqual(spelled(formula_for(less, kind), 3), rows)

    def test_trimmed(self):
        self.assertEqual(kinds_of(trimmed(PLAN)), ("doc", "head", "par"))
        far = read_schema("a, a x b*, b x (#), c x a, d x d, e x (a d)?")
        self.assertEqual([kinds_of(trimmed(far)), trimmed(far).tops], [("a", "b"), ("a",)])
        self.assertEqual([schema_text(trimmed(read_schema(text))) for text in ("-", "a, a x a", "-, a x -")], ["-"] * 3)
        hidden = read_schema("a, a x [# (b c)], b x -, c x c")
        self.assertEqual(kinds_of(trimmed(hidden)), ("a",))

    def test_empty(self):
        for text, empty in (("-", True), ("-, a x -", True), ("a, a x -", False), ("a, a x a", True), ("a b, a x a, b y #", False)):
            self.assertIs(is_empty(read_schema(text)), empty)

    def test_great(self):
        text = "a, " + ", ".join([kind + " x (" + " ".join([other] * 22) + ")" for kind, other in zip("abcdefg", "bcdefgh")])
        schema = read_schema(text + ", h x #")
        self.assertEqual([order_paper(schema), kinds_of(trimmed(schema))], [tuple("hgfedcba"), tuple("abcdefgh")])


if __name__ == "__main__":
    unittest.main()
