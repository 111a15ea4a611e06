"""Points 44 and 45: shapes counted and numbered, typings counted."""

import unittest

from tests.helping import Case, random_formula, seeded
from tests.test_fitting import all_typings
from tests.test_tables import all_nodes
from turnsfit.counting import many_of_size, many_typings, node_at, shape_number, shapes_of
from turnsfit.fitting import fits
from turnsfit.formulas import letters_of
from turnsfit.nodes import compared, least_of, order_key, size_of
from turnsfit.schemas import Schema
from turnsfit.schematext import read_schema, schema_text

FEW = read_schema("doc, doc doc (head head?), head head #")
PLAN = read_schema("doc, doc doc (head [par old]*), head head #, old box (par old+), par par #")
NODES = sorted(all_nodes(6, ("x", "y")), key=lambda node: (size_of(node), order_key(node)))


def schema_of_few_letters(chance):
    kinds = tuple("abcd")[:chance.randint(1, 4)]
    types = []
    for kind in kinds:
        formula = random_formula(chance, 2, ("",) + kinds)
        types.append((kind, chance.choice("xy"), formula if len(letters_of(formula)) < 5 else ("empty",)))
    return Schema(tuple(types), tuple([kind for kind in kinds if chance.random() < .7]))


class CountingTest(Case):
    def test_example(self):
        self.assertEqual((many_of_size(schema=PLAN, size=5), node_at(schema=FEW, number=2),
                          shape_number(schema=PLAN, node=("doc", (("head", ("",)),)))), (1, None, 0))
        doubled = Schema((("a", "doc", FEW.types[0][2]), ("b", "doc", FEW.types[0][2])) + FEW.types[1:], ("a", "b"))
        self.assertEqual(many_typings(schema=doubled, node=("doc", (("head", ("",)),))), 2)

    def test_order_of_the_search(self):
        for one, other in zip(NODES[:300], NODES[1:]):
            self.assertTrue(size_of(one) < size_of(other) or compared(one, other) == -1)

    def test_against_a_plain_search(self):
        chance = seeded(441)
        found = 0
        for _ in range(50):
            schema = schema_of_few_letters(chance)
            brief = NODES if chance.random() < .15 else NODES[:500]
            most = size_of(brief[-1]) if brief is NODES else size_of(brief[-1]) - 1
            known = [node for node in brief if size_of(node) <= most and fits(schema, node)]
            found += len(known) > 4
            for size in range(most + 1):
                shapes = tuple([node for node in known if size_of(node) == size])
                self.assertEqual(many_of_size(schema, size), len(shapes), schema_text(schema))
                self.assertEqual(shapes_of(schema=schema, size=size), shapes, schema_text(schema))
            for number, node in enumerate(known[:60]):
                self.assertEqual(node_at(schema, number), node)
                self.assertEqual(shape_number(schema, node), number)
            for node in chance.sample(brief[:200], 20):
                if node not in known and size_of(node) <= most:
                    self.assertIsNone(shape_number(schema, node))
        self.assertTrue(found > 10, found)

    def test_there_and_back(self):
        chance = seeded(442)
        for _ in range(25):
            schema = schema_of_few_letters(chance)
            for number in (0, 1, 7, 60, 300):
                node = node_at(schema, number)
                if node is not None:
                    self.assertEqual(shape_number(schema, node), number)
                    self.assertTrue(fits(schema, node))
                    self.assertEqual(node_at(schema, number), least_of([node]))

    def test_each_once_however_many_typings(self):
        schema = read_schema("a b, a x [c d]*, b x c*, c y #?, d y -")
        self.assertEqual([many_of_size(schema, size) for size in range(6)], [0, 1, 1, 2, 3, 5])
        self.assertEqual(shapes_of(schema, 3), (("x", (("y", ()), ("y", ()))), ("x", (("y", ("",)),))))

    def test_other_nodes(self):
        for node in (("doc", (("head", ("x",)),)), ("doc", ()), ("head", ("",)), ("z", ()), ("doc", (("head", ("",)), ("z", ())))):
            self.assertIsNone(shape_number(FEW, node))
        self.assertEqual([node_at(FEW, number) for number in range(4)],
                         [("doc", (("head", ("",)),)), ("doc", (("head", ("",)), ("head", ("",)))), None, None])

    def test_schemas_that_nothing_fits(self):
        for schema in (Schema((), ()), read_schema("-, a x -"), read_schema("a, a x a"), read_schema("b, a x #, b y (a b)")):
            self.assertEqual(([many_of_size(schema, size) for size in (0, 1, 2, 60)], shapes_of(schema, 0), shapes_of(schema, 3),
                              node_at(schema, 0), node_at(schema, 300), shape_number(schema, ("x", ()))), ([0] * 4, (), (), None, None, None))
            self.assertEqual(many_typings(schema, ("x", ())), 0)

    def test_one_and_the_other_alone(self):
        """The shapes of either and both sum up to those of the one and of the other."""
        one, other = read_schema("a, a x [a #]*"), read_schema("a, a x (# a*)")
        both = read_schema("a, a x (# a*)")
        for size in range(1, 9):
            shapes, others = set(shapes_of(one, size)), set(shapes_of(other, size))
            self.assertEqual((len(shapes | others) + many_of_size(both, size), len(shapes - others)),
                             (many_of_size(one, size) + many_of_size(other, size), many_of_size(one, size) - many_of_size(both, size)))

    def test_many_typings(self):
        chance = seeded(451)
        found = {}
        for _ in range(200):
            schema = schema_of_few_letters(chance)
            if chance.random() < .5:
                schema = Schema(tuple([(kind, name, chance.choice((("star", formula), ("maybe", formula), ("empty",))))
                                       for kind, name, formula in schema.types]), schema.tops)
            for node in chance.sample(NODES[:400], 20) + [("x", (("x", ()),) * 3), ("x", (("y", ()),) * 4)]:
                many = len(all_typings(schema, node))
                found[many] = found.get(many, 0) + 1
                self.assertEqual(many_typings(schema, node), many, (schema_text(schema), node))
        self.assertTrue(len(found) > 3, found)
        self.assertEqual(many_typings(read_schema("a, a x [b c]*, b y -, c y -"), ("x", (("y", ()),) * 150)), 2 ** 150)

    def test_great(self):
        dense = read_schema("a b, a x [a b c d]*, b y (a? #* b?), c z [d #+ (a b c d)], d w ([a c] d?)*")
        many = many_of_size(dense, 60)
        self.assertTrue(many > 10 ** 12)
        for number in (0, 17, 300):
            self.assertEqual(shape_number(dense, node_at(dense, number)), number)
        great = ("x", (("y", ("",) * 20), ("x", ()), ("w", (("x", ()), ("w", ()))), ("z", ("",) * 12), ("x", (("x", ()),) * 20)))
        self.assertEqual(size_of(great), 60)
        number = shape_number(dense, great)
        below = sum([many_of_size(dense, size) for size in (58, 59)])
        self.assertTrue(below < number < below + many + sum([many_of_size(dense, size) for size in range(58)]))
        gaps = read_schema("a, a x (b b b b), b y (c c c c), c x (d d d d), d y (# # # (# #)*)")
        self.assertEqual(size_of(node_at(gaps, 0)), 1 + 4 * (1 + 4 * (1 + 4 * 4)))
        self.assertEqual(shape_number(gaps, node_at(gaps, 70)), 70)
        self.assertEqual(node_at(read_schema("a, a x #*"), 300), ("x", ("",) * 300))


if __name__ == "__main__":
    unittest.main()
