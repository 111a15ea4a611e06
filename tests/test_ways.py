"""Points 37 and 38: ways, rivals, and plain hulls."""

import unittest

from tests.helping import Case, seeded
from tests.test_fitting import all_typings
from tests.test_joined import EMPTY_ONES, lively_schema
from tests.test_schematext import random_schema
from tests.test_streaming import PLAN
from tests.test_tables import all_nodes
from turnsfit.alive import is_empty
from turnsfit.fitting import fits
from turnsfit.formulas import letters_of
from turnsfit.joined import is_within
from turnsfit.nodes import size_of
from turnsfit.places import at_place, node_places, replaced
from turnsfit.schemas import Schema, need_schema
from turnsfit.schematext import read_schema
from turnsfit.ways import is_plain_schema, plain_hull, rivals, types_by_way, way_of

TWO = Schema((("a", "x", ("row", (("one", "b"), ("one", "c")))), ("b", "y", ("empty",)), ("c", "y", ("text",))), ("a",))
NODES = all_nodes(4, ("x", "y"))


def exchanged_all(nodes, most):
    """All small documents that come from some documents by exchanges, one after another."""
    found = dict.fromkeys(nodes)
    while True:
        parts = {}
        for node in found:
            for place in node_places(node):
                parts.setdefault(way_of(node, place), set()).add(at_place(node, place))
        more = dict.fromkeys(found)
        for node in found:
            for place in node_places(node):
                for thing in parts[way_of(node, place)]:
                    made = replaced(node, place, thing)
                    if size_of(made) <= most:
                        more[made] = None
        if len(more) == len(found):
            return set(found)
        found = more


class WaysTest(Case):
    def test_example(self):
        self.assertEqual((types_by_way(schema=PLAN, way=("d", "p", "w")), rivals(schema=PLAN), rivals(TWO)), (("note",), None, ("a", "b", "c")))

    def test_ways(self):
        node = ("a", ("x", ("b", (("c", ()),)), ("a", ())))
        self.assertEqual([way_of(node=node, place=place) for place in node_places(node)], [("a",), ("a", "b"), ("a", "b", "c"), ("a", "a")])

    def test_types_by_way(self):
        chance = seeded(371)
        for _ in range(150):
            schema = random_schema(chance)
            names = {kind: name for kind, name, _ in schema.types}
            formulas = {kind: letters_of(formula) for kind, _, formula in schema.types}
            for _ in range(10):
                way = tuple([chance.choice(("x", "y", "z")) for _ in range(chance.randint(1, 4))])
                kinds = {kind for kind in schema.tops if names[kind] == way[0]}
                for name in way[1:]:
                    kinds = {letter for kind in kinds for letter in formulas[kind] if names.get(letter) == name}
                self.assertEqual(types_by_way(schema, list(way)), tuple(sorted(kinds)))
        self.assertEqual((types_by_way(Schema((), ()), ("a",)), types_by_way(PLAN, ("none",)), types_by_way(PLAN, ("d", "none", "p"))), ((), (), ()))

    def test_rivals(self):
        for text, found in (("-", None), ("a b, a x -, b x -", ("", "a", "b")), ("a b c, a x -, b y -, c x (a b)", ("", "a", "c")), ("-, a x [b c]*, b y -, c y -", ("a", "b", "c")),
                            ("a, a x -, b x -", None), ("a, a x [b #]*, b x a", None), ("b, a x [a b d], b x [d c], c y -, d y -", ("a", "a", "b")),
                            ("a c, a x [b d]*, b y [b d], c z (d b), d y -", ("a", "b", "d")), ("a, a x #, b y (dead e), dead x (dead), e x -", ("b", "dead", "e"))):
            schema = read_schema(text)
            self.assertEqual(rivals(schema), found, text)
            self.assertIs(is_plain_schema(schema=schema), found is None)

    def test_one_typing_in_plain_schemas(self):
        """Each node's type hangs on its way alone."""
        chance = seeded(372)
        many = 0
        while many < 40:
            schema = lively_schema(chance)
            if not is_plain_schema(schema):
                schema = plain_hull(schema)
            self.assertTrue(is_plain_schema(schema))
            fitting = [node for node in NODES if fits(schema, node)]
            many += len(fitting) > 2
            for node in fitting[:30]:
                self.assertEqual(len(all_typings(schema, node)), 1)
                for place in node_places(node):
                    self.assertEqual(len(types_by_way(schema, way_of(node, place))), 1)

    def test_hulls(self):
        """Just the documents that come by exchanges, one after another: against all of small size."""
        chance = seeded(381)
        more = 0
        for _ in range(400):
            schema = lively_schema(chance)
            if is_plain_schema(schema):
                continue
            hull = plain_hull(schema=schema)
            need_schema(hull)
            self.assertTrue(is_plain_schema(hull))
            self.assertIsNone(is_within(schema, hull))
            self.assertIsNone(is_within(plain_hull(hull), hull))
            fitting = [node for node in NODES if fits(schema, node)]
            found = exchanged_all(fitting, 4)
            for node in found:
                self.assertTrue(fits(hull, node))
            more += len(found) > len(fitting)
        self.assertTrue(more > 1, more)

    def test_all_of_a_hull_come_by_exchanges(self):
        for text, most in (("a, a x (b c), b y -, c y #", 5), ("a, a x (b? c), b y #, c y (b)", 6), ("a b, a x (c), b x (d), c y -, d y (# #)", 4),
                           ("a, a x [(b) (c c)], b y -, c y #", 5)):
            schema = read_schema(text)
            nodes = all_nodes(most, ("x", "y"))
            found = exchanged_all([node for node in nodes if fits(schema, node)], most)
            self.assertEqual(found, {node for node in nodes if fits(plain_hull(schema), node)}, text)

    def test_schemas_of_which_no_document_fits(self):
        for none in EMPTY_ONES:
            hull = plain_hull(none)
            need_schema(hull)
            self.assertTrue(is_empty(hull) and is_plain_schema(hull))
        # Dead types are left out first: here they would lead to a hull with more in it.
        dead = read_schema("a, a x [b (dead c)], b y -, c y #, dead x dead")
        self.assertIsNone(is_within(plain_hull(dead), dead))

    def test_great(self):
        kinds = ("a", "b", "c", "d", "e", "f")
        schema = Schema(tuple([(kind, "x", ("row", (("star", ("one", kinds[at - 1])), ("maybe", ("one", kinds[at - 2])), ("star", ("text",)),
                                                    ("maybe", ("either", (("one", kind), ("text",)))))))
                               for at, kind in enumerate(kinds)]), ("a", "d"))
        hull = plain_hull(schema)
        self.assertTrue(is_plain_schema(hull))
        self.assertIsNone(is_within(schema, hull))
        self.assertEqual(types_by_way(schema, ("x",) * 200), kinds)


if __name__ == "__main__":
    unittest.main()
