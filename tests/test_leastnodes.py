"""Point 42: least and greatest documents."""

import unittest

from tests.helping import GREAT, Case, odd_values, seeded, spelled
from tests.test_schematext import random_schema
from tests.test_tables import all_nodes
from turnsfit.alive import alive_types
from turnsfit.fitting import fits, giving_of, types_of
from turnsfit.leastnodes import check_sizes, largest, least_document, least_node, sizes_paper
from turnsfit.nodes import least_of, size_of
from turnsfit.schemas import Schema, kinds_of
from turnsfit.schematext import read_schema, schema_text
from turnsfit.words import is_number

PLAN = read_schema("doc, doc doc (head [par old]*), head head #, old box (par old+), par par #")
FEW = read_schema("doc, doc doc (head head?), head head #")
NODES = all_nodes(5, ("x", "y"))


class LeastNodesTest(Case):
    def test_example(self):
        self.assertEqual((least_document(schema=PLAN), largest(schema=PLAN), largest(FEW), sizes_paper(schema=FEW)),
                         (("doc", (("head", ("",)),)), None, 5, (3, 2)))

    def test_least_nodes(self):
        chance = seeded(421)
        found = {}
        for _ in range(120):
            schema = random_schema(chance)
            by_kind = {}
            for node in NODES[:700]:
                for kind in types_of(schema, node):
                    by_kind.setdefault(kind, []).append(node)
            most = size_of(NODES[699])
            for kind in kinds_of(schema):
                node = least_node(schema=schema, kind=kind)
                self.assertIs(node is None, kind not in alive_types(schema))
                if node is not None:
                    self.assertIsNotNone(giving_of(schema, node, kind))
                if kind in by_kind and (node is None or size_of(node) < most):
                    self.assertEqual(node, least_of(by_kind[kind]), schema_text(schema))
                elif kind not in by_kind and node is not None:
                    self.assertTrue(size_of(node) >= most)
                found[node] = found.get(node, 0) + 1
            documents = [least_node(schema, kind) for kind in schema.tops if kind in alive_types(schema)]
            self.assertEqual(least_document(schema), least_of(documents) if documents else None)
        self.assertTrue(len(found) > 12 and found[None] > 10)

    def test_least_by_order(self):
        for text, least in (("a, a x [b c (# #)], b y -, c x -", ("x", (("x", ()),))), ("a b, a y -, b x -", ("x", ())),
                            ("a, a x [(b #) (# c)], b y #, c y #", ("x", ("", ("y", ("",))))),
                            ("a, a x ([b c] [b c]), b y [d #], c y [d #], d z -", ("x", (("y", ("",)), ("y", ("",))))),
                            ("a, a x [(b c) (c b)], b y (#), c y (d), d z -", ("x", (("y", ("",)), ("y", (("z", ()),))))),
                            ("a, a x [(c b) (b b b)], b y -, c z (#)", ("x", (("y", ()),) * 3))):
            self.assertEqual(least_document(read_schema(text)), least, text)

    def test_check_sizes(self):
        chance = seeded(422)
        counts = {True: 0, False: 0}
        for _ in range(200):
            schema = random_schema(chance)
            rows = [spelled(formula, 5) for _, _, formula in schema.types]
            for _ in range(4):
                value = tuple([chance.randint(0, 3) for _ in schema.types])
                sizes = dict(zip(kinds_of(schema), value))
                sizes[""] = 1
                right = all(size <= 1 + sum(sizes[letter] for letter in row) for size, own in zip(value, rows) for row in own)
                counts[right] += 1
                self.assertIs(check_sizes(schema=schema, value=value), right, (schema_text(schema), value))
                if right:
                    for kind, size in zip(kinds_of(schema), value):
                        self.assertTrue(least_node(schema, kind) is None or size_of(least_node(schema, kind)) >= size)
            paper = sizes_paper(schema)
            self.assertIs(check_sizes(schema, paper), True, schema_text(schema))
            for kind, size in zip(kinds_of(schema), paper):
                if least_node(schema, kind) is not None:
                    self.assertEqual(size, size_of(least_node(schema, kind)))
        self.assertTrue(min(counts.values()) > 100, counts)

    def test_wrong_sizes(self):
        for value in ((3, 2), (0, 0), (2, 1)):
            self.assertIs(check_sizes(FEW, value), True)
        for value in ([3, 2], (3,), (3, 2, 1), (4, 2), (3, 3), (3, True), (False, 0), (-1, 0), (3, None), ("", ""), (GREAT, 2), (), None):
            self.assertIs(check_sizes(FEW, value), False, value)
        loop = read_schema("a, a x a, b x -")
        self.assertIs(check_sizes(loop, (GREAT, 1)), True)
        self.assertIs(check_sizes(loop, (0, 2)), False)
        self.assertIs(check_sizes(Schema((), ()), ()), True)
        self.assertIs(check_sizes(Schema((), ()), []), False)

    def test_any_value(self):
        for value in odd_values():
            for sizes in (value, (value,), (value, value), (3, value), (value, 2)):
                right = isinstance(sizes, tuple) and len(sizes) == 2 and all(is_number(one) for one in sizes)
                right = right and sizes[1] <= 2 and sizes[0] <= 1 + sizes[1]
                self.assertIs(check_sizes(FEW, sizes), right, sizes)

    def test_nothing_alive(self):
        for text in ("-", "a, a x a", "-, a x -", "a, a x (b #), b y a, c x #"):
            schema = read_schema(text)
            self.assertEqual((least_document(schema), largest(schema)), (None, -1))
            self.assertIs(check_sizes(schema, sizes_paper(schema)), True)
        schema = read_schema("a, a x [b (d d)], b y (# # # # #), d z d+")
        self.assertEqual((least_node(schema, "d"), size_of(least_node(schema, "a")), sizes_paper(schema)[:2]), (None, 7, (7, 6)))
        self.assertIs(check_sizes(schema, sizes_paper(schema)), True)

    def test_largest(self):
        chance = seeded(423)
        known = {}
        for _ in range(250):
            schema = random_schema(chance)
            sizes = [size_of(node) for node in NODES if fits(schema, node)] if chance.random() < .2 else None
            most = largest(schema)
            self.assertIs(most == -1, least_document(schema) is None)
            known[most] = known.get(most, 0) + 1
            if sizes is not None and most is not None:
                self.assertTrue(max(sizes, default=-1) == most if most <= 5 else max(sizes, default=-1) <= 5)
            if most is not None and most >= 0:
                self.assertTrue(size_of(least_document(schema)) <= most)
        self.assertTrue(known[None] > 20 and known[-1] > 20 and len(known) > 4)
        for text, most in (("a, a x -*", 1), ("a, a x (- -?)*+", 1), ("a, a x #*", None), ("a, a x [# b], b y #+", None),
                           ("a, a x [# b], b y (# b), c z #*", 2), ("a, a x a?", None), ("a, a x [b #], b y (# #)", 4),
                           ("a b, a x (# #)?, b y [a (a a)]+?", None), ("a b, a x (# #)?, b y [a (a a)]?", 7)):
            self.assertEqual(largest(read_schema(text)), most, text)

    def test_great(self):
        chain = ["%s x (%s)" % (kind, " ".join([other] * 22)) for kind, other in zip("abcdefgh", "bcdefgh#")]
        schema = read_schema("a, " + ", ".join(chain))
        sizes = [23]
        for _ in range(7):
            sizes.append(1 + 22 * sizes[-1])
        self.assertEqual((sizes_paper(schema), largest(schema)), (tuple(sizes[::-1]), sizes[-1]))
        node = least_document(schema)
        for _ in range(8):
            self.assertEqual((node[0], len(node[1])), ("x", 22))
            node = node[1][21]
        self.assertEqual(node, "")
        equal = ["%s x [(%s) (%s)]" % (kind, " ".join([other] * 9), " ".join([other] * 9)) for kind, other in zip("abcdefgh", "bcdefgh#")]
        self.assertEqual(sizes_paper(read_schema("a, " + ", ".join(equal)))[7], 10)


if __name__ == "__main__":
    unittest.main()
