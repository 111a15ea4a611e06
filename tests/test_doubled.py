"""Point 24: schemas by which a document has one typing at most."""

import itertools
import unittest

from tests.helping import Case, odd_values, seeded, spelled
from tests.test_fitting import all_givings, all_typings
from tests.test_schematext import random_schema
from tests.test_tables import all_nodes
from turnsfit.doubled import check_single, single_paper, two_typings
from turnsfit.nodes import least_of, size_of
from turnsfit.schemas import Schema, kinds_of, name_for
from turnsfit.schematext import read_schema, schema_text

SCHEMA = read_schema("doc, doc doc (head [note par]*), head head #, note par -, par par #*")
SINGLE = read_schema("a, a a (b c?), b b -, c b #")


def together(one, other, pairs):
    return one == other == "" or tuple(sorted((one, other))) in pairs


def is_closed(schema, pairs, twice, most):
    """The four conditions, over all rows up to a length."""
    rows = {kind: [row for row in spelled(formula, most) if len(row) <= most] for kind, _, formula in schema.types}
    for one, other in itertools.combinations_with_replacement(kinds_of(schema), 2):
        if name_for(schema, one) != name_for(schema, other):
            continue
        for first, second in itertools.product(rows[one], rows[other]):
            if len(first) == len(second) and all(together(a, b, pairs) for a, b in zip(first, second)):
                if (one, other) not in pairs:
                    return False
                if one == other and one not in twice and (first != second or any(letter in twice for letter in first)):
                    return False
    unlike = [pair for pair in pairs if pair[0] != pair[1] and pair[0] in schema.tops and pair[1] in schema.tops]
    return not unlike and not any(kind in schema.tops for kind in twice)


class DoubledTest(Case):
    def test_example(self):
        node, one, other = two_typings(schema=SCHEMA)
        self.assertEqual(node, ("doc", (("head", ("",)), ("par", ()))))
        self.assertEqual((one, other), (("doc", (("head", ("",)), ("note", ()))), ("doc", (("head", ("",)), ("par", ())))))
        self.assertEqual(single_paper(schema=SINGLE), ((("a", "a"), ("b", "b"), ("c", "c")), ()))
        self.assertEqual((two_typings(SINGLE), single_paper(SCHEMA)), (None, None))

    def test_against_a_plain_search(self):
        chance = seeded(241)
        nodes = sorted(all_nodes(5, ("x", "y")), key=size_of)
        doubled = 0
        for _ in range(500):
            schema = random_schema(chance)
            brief = nodes if chance.random() < .1 else nodes[:200]
            most = size_of(brief[-1])
            twice = [node for node in brief if len(all_typings(schema, node)) > 1]
            found = two_typings(schema)
            paper = single_paper(schema)
            self.assertIs(found is None, paper is not None, schema_text(schema))
            if found is None:
                self.assertEqual(twice, [])
                self.assertTrue(check_single(schema, paper), schema_text(schema))
                self.is_least_paper(schema, paper, brief[:60])
                continue
            doubled += 1
            if size_of(found[0]) < most:
                self.assertEqual(found[0], least_of(twice), schema_text(schema))
            else:
                self.assertTrue(all(size_of(node) == most for node in twice))
            self.assertEqual(list(found[1:]), all_typings(schema, found[0])[:2])
        self.assertTrue(20 < doubled < 230, doubled)

    def is_least_paper(self, schema, paper, nodes):
        for node in nodes:
            givings = all_givings(schema, node)
            for one, other in itertools.combinations(givings, 2):
                self.assertIn((one[0], other[0]), paper[0])
                if one[0] == other[0]:
                    self.assertIn(one[0], paper[1])
        for at in range(len(paper[0])):
            less = paper[0][:at] + paper[0][at + 1:]
            self.assertIs(check_single(schema, (less, paper[1])), False)

    def test_closed_papers(self):
        chance = seeded(242)
        closed = 0
        for _ in range(150):
            schema = random_schema(chance)
            pairs = [(one, other) for one in kinds_of(schema) for other in kinds_of(schema)
                     if one <= other and name_for(schema, one) == name_for(schema, other)]
            for _ in range(4):
                some = tuple([pair for pair in pairs if chance.random() < .8])
                twice = tuple([kind for kind in kinds_of(schema) if chance.random() < .3])
                told = check_single(schema, (some, twice))
                closed += told
                self.assertIs(told, is_closed(schema, some, twice, 6), (schema_text(schema), some, twice))
        self.assertTrue(closed > 30)

    def test_wrong_papers(self):
        right = ((("a", "a"), ("b", "b"), ("c", "c")), ())
        self.assertIs(check_single(schema=SINGLE, value=right), True)
        self.assertIs(check_single(SINGLE, (right[0], ("b",))), False)
        self.assertIs(check_single(Schema(SINGLE.types, ()), (right[0], ("a", "b", "c"))), True)
        self.assertIs(check_single(SINGLE, ((("a", "a"), ("b", "b"), ("b", "c"), ("c", "c")), ())), True)
        self.assertIs(check_single(SINGLE, ((("a", "a"), ("b", "b"), ("c", "c")), ("a",))), False)
        for value in (list(right), right[0], (right[0],), right + ((),), (list(right[0]), ()), (right[0], []), (right[0], ("c", "b")),
                      (right[0], ("d",)), (right[0][::-1], ()), (right[0] + (("c", "c"),), ()), ((("a", "a"), ("a", "b")), ()),
                      ((("a", "a"), ("c", "b")), ()), ((("a", "a"), ("b", "b"), ["c", "c"]), ()), ((("a", "a"), ("b", "b"), ("c",)), ()),
                      ((("a", "a"), ("b", "b"), ("c", 1)), ()), ((1, 2), ()), (right[0], ("b", "b")), (right[0], (1,)), ((), ())):
            self.assertIs(check_single(SINGLE, value), False, value)
        self.assertIs(check_single(Schema((), ()), ((), ())), True)

    def test_any_value(self):
        for value in odd_values():
            for paper in (value, (value, ()), ((), value), (((value, "a"),), ()), ((("a", value),), ()), ((value,), (value,))):
                self.assertIs(check_single(SINGLE, paper), False)

    def test_tops(self):
        for text, least in (("a b, a x -, b x #?", ("x", ())), ("a b, a x (#), b x #?", ("x", ("",))), ("a, a x [b c], b y -, c y -",
                            ("x", (("y", ()),))), ("a b, a x -, b y -", None), ("-, a x -, b x -", None), ("-", None),
                            ("a b, a x a, b x b", None), ("a, a x (b b), b y [c d], c z -, d z -", ("x", (("y", (("z", ()),)),) * 2))):
            schema = read_schema(text)
            found = two_typings(schema)
            self.assertEqual(found if least is None else found[0], least, text)
            self.assertIs(single_paper(schema) is None, least is not None)
        self.assertEqual(single_paper(read_schema("-, a x -, b x -")), ((("a", "a"), ("a", "b"), ("b", "b")), ()))
        self.assertEqual(single_paper(read_schema("a, a x (b d), b y [c e], c z -, d d d, e z -")),
                         ((("b", "b"), ("c", "c"), ("c", "e"), ("e", "e")), ("b",)))

    def test_great(self):
        dense = "[" + " ".join("abcd#" * 4) + " a b]*"
        schema = read_schema("a, " + ", ".join([kind + " x " + dense for kind in "abcd"]))
        self.assertEqual(two_typings(schema)[0], ("x", (("x", ()),)))
        maybes = "(" + " ".join([letter + "?" for letter in "abcd#abcd#a"]) + ")"
        schema = read_schema("a, " + ", ".join([kind + " " + name + " " + maybes for kind, name in zip("abcd", "xyxy")]))
        self.assertEqual(two_typings(schema)[0], ("x", (("x", ()),)))
        chain = "a, a x (%s), b y (%s), c z (%s), d z #" % (" ".join("b" * 12), " ".join("c" * 12), " ".join(["[d -]"] * 5))
        self.assertIsNone(two_typings(read_schema(chain.replace("[d -]", "d"))))
        long = "a, a x (%s), b y (%s), c z [# d], d z #" % (" ".join("b" * 20), " ".join("c" * 20))
        self.assertIsNone(two_typings(read_schema(long)))
        long = long.replace("# d", "# # (#)").replace(" c c)", " c [c d])")
        self.assertEqual(size_of(two_typings(read_schema(long))[0]), 1 + 20 * (1 + 20 * 2))


if __name__ == "__main__":
    unittest.main()
