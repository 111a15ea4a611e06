"""Point 43, and what points 44, 45 and 75 say of schemas put together."""

import unittest

from tests.helping import Case, random_formula, seeded
from tests.test_schematext import random_schema
from tests.test_tables import all_nodes
from turnsfit.alive import is_empty
from turnsfit.counting import many_of_size, many_typings, node_at, shape_number, shapes_of
from turnsfit.fitting import fits
from turnsfit.formulas import parts_of
from turnsfit.joined import all_but, both_of, but_not, either_of, is_within
from turnsfit.leastnodes import largest, least_document
from turnsfit.mended import distance
from turnsfit.nodes import least_of, names_of, size_of
from turnsfit.schemas import Schema, need_schema, node_names
from turnsfit.schematext import read_schema
from turnsfit.tablesums import parting

PLAN = read_schema("doc, doc doc (head [par old]*), head head #, old box (par old+), par par #")
FEW = read_schema("doc, doc doc (head head?), head head #")
NONE = Schema((), ())
NODES = all_nodes(5, ("x", "y"))
EMPTY_ONES = (NONE, read_schema("-, a x -"), read_schema("a, a x a"), read_schema("a, a x (# b), b y b"))


def lively_schema(chance, most=4):
    """A schema of which some document fits, with formulas of few letters."""
    while True:
        schema = random_schema(chance)
        if not is_empty(schema) and len(schema.types) <= most:
            return schema


class JoinedTest(Case):
    def test_example(self):
        self.assertEqual((least_document(PLAN), largest(PLAN), largest(FEW)), (("doc", (("head", ("",)),)), None, 5))
        self.assertEqual((is_within(one=FEW, other=PLAN), is_within(FEW, either_of(one=PLAN, other=FEW)), least_document(both_of(one=PLAN, other=FEW))),
                         (("doc", (("head", ("",)), ("head", ("",)))), None, ("doc", (("head", ("",)),))))
        self.assertEqual(many_typings(either_of(FEW, FEW), ("doc", (("head", ("",)),))), 2)

    def test_documents(self):
        chance = seeded(431)
        for _ in range(120):
            one, other = random_schema(chance), random_schema(chance)
            made = ((either_of(one, other), lambda a, b: a or b), (both_of(one, other), lambda a, b: a and b),
                    (but_not(one=one, other=other), lambda a, b: a and not b))
            for schema, told in made:
                need_schema(schema)
                for node in chance.sample(NODES, 60):
                    self.assertIs(fits(schema, node), told(fits(one, node), fits(other, node)))
            names = chance.choice(((), ("x",), ["y", "x", "y"], ("x", "y", "z")))
            rest = all_but(schema=one, names=names)
            need_schema(rest)
            for node in chance.sample(NODES, 60) + [("z", ()), ("x", (("z", ()),)), ("u", ())]:
                self.assertIs(fits(rest, node), set(names_of(node)) <= set(names) and not fits(one, node))

    def test_typings(self):
        chance = seeded(432)
        many = {}
        for _ in range(120):
            one, other = lively_schema(chance), lively_schema(chance)
            either, both = either_of(one, other), both_of(one, other)
            for node in chance.sample(NODES, 60):
                told = (many_typings(one, node), many_typings(other, node))
                self.assertEqual(many_typings(either, node), told[0] + told[1])
                self.assertEqual(many_typings(both, node), told[0] * told[1])
                many[told] = True
        self.assertTrue({(1, 1), (2, 1), (1, 2), (0, 1)} <= set(many), many)

    def test_within(self):
        chance = seeded(433)
        told = [0, 0]
        for _ in range(200):
            one, other = lively_schema(chance), random_schema(chance)
            if chance.random() < .4:
                other = either_of(other, one) if chance.random() < .5 else other
                one = both_of(one, other) if chance.random() < .5 else one
            node = is_within(one, other)
            escaping = [each for each in NODES if fits(one, each) and not fits(other, each)]
            told[node is None] += 1
            if node is None or size_of(node) > 5:
                self.assertEqual(escaping, [])
            else:
                self.assertEqual(node, least_of(escaping))
            if node is not None:
                self.assertTrue(fits(one, node) and not fits(other, node))
            self.assertEqual(node, least_document(but_not(one, other)))
            self.assertIs(node is None, is_empty(but_not(one, other)))
        self.assertTrue(min(told) > 30, told)

    def test_schemas_of_which_no_document_fits(self):
        for none in EMPTY_ONES:
            self.assertEqual((is_within(none, PLAN), is_within(none, none), is_within(FEW, none)), (None, None, least_document(FEW)))
            for schema in (both_of(none, PLAN), both_of(FEW, none), but_not(none, PLAN), but_not(FEW, Schema(FEW.types, FEW.tops)),
                           either_of(none, none), all_but(none, ())):
                need_schema(schema)
                self.assertTrue(is_empty(schema))
            for schema in (either_of(none, FEW), either_of(FEW, none), but_not(FEW, none)):
                self.assertIsNone(parting(schema, FEW))
        self.assertEqual(least_document(all_but(NONE, ("b", "a"))), ("a", ()))
        self.assertTrue(is_empty(all_but(read_schema("a b, a a [a b #]*, b b [a b #]*"), ("a", "b"))))

    def test_one_schema_within_itself(self):
        chance = seeded(434)
        for _ in range(60):
            one, other = lively_schema(chance), lively_schema(chance)
            self.assertIsNone(is_within(one, one))
            self.assertIsNone(is_within(both_of(one, other), one))
            self.assertIsNone(is_within(other, either_of(one, other)))
            self.assertIsNone(parting(all_but(all_but(one, node_names(one)), node_names(one)), one))
            self.assertIsNone(parting(either_of(both_of(one, other), but_not(one, other)), one))
            self.assertTrue(is_empty(both_of(but_not(one, other), other)))

    def test_shapes(self):
        """The numbers of shapes that fit either and both sum up to those that fit the one and the other."""
        chance = seeded(435)
        for _ in range(60):
            one, other = lively_schema(chance, 3), lively_schema(chance, 3)
            either, both, rest = either_of(one, other), both_of(one, other), but_not(one, other)
            for size in range(1, 9):
                many = [many_of_size(schema, size) for schema in (one, other, either, both, rest)]
                self.assertEqual(many[2] + many[3], many[0] + many[1])
                self.assertEqual(many[0] - many[3], many[4])
            for schema in (either, both, rest):
                for number in range(6):
                    node = node_at(schema, number)
                    self.assertEqual(None if node is None else shape_number(schema, node), None if node is None else number)
                self.assertEqual(shapes_of(schema, 3), tuple([node for node in shapes_of(either, 3) if fits(schema, node)]))

    def test_distances(self):
        chance = seeded(436)
        for _ in range(60):
            one, other = lively_schema(chance), random_schema(chance)
            for node in chance.sample(NODES, 8):
                told = [found for found in (distance(one, node), distance(other, node)) if found is not None]
                self.assertEqual(distance(either_of(one, other), node), min(told))
        self.assertEqual([distance(either_of(none, FEW), ("doc", ())) for none in EMPTY_ONES], [2] * 4)
        self.assertEqual([distance(either_of(none, NONE), ("doc", ())) for none in EMPTY_ONES], [None] * 4)

    def test_great(self):
        chance = seeded(437)
        names = ("x", "y")
        for seed in range(12):
            made = []
            for _ in range(2):
                kinds = tuple("abcd")
                triples = tuple([(kind, chance.choice(names), ("row", (("maybe", random_formula(chance, 2, ("",) + kinds)),) * 2))
                                 for kind in kinds])
                made.append(Schema(triples, kinds[:2]))
            one, other = made
            either, both = either_of(one, other), both_of(one, other)
            self.assertIsNone(is_within(both, either))
            self.assertIsNone(is_within(both_of(both, either), one))
            self.assertTrue(all([parts_of(formula) < 20000 for _, _, formula in both.types]))
            if seed < 3:
                many = [many_of_size(schema, 40) for schema in (one, other, either, both)]
                self.assertEqual(many[2] + many[3], many[0] + many[1])


if __name__ == "__main__":
    unittest.main()
