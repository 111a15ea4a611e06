"""Point 39: exchanges."""

import itertools
import unittest

from tests.helping import Case, odd_values, seeded
from tests.test_joined import EMPTY_ONES, lively_schema
from tests.test_tables import all_nodes
from tests.test_ways import TWO
from turnsfit.exchanges import check_exchange, exchanged, plain_or_exchange
from turnsfit.fitting import fits
from turnsfit.joined import is_within
from turnsfit.nodes import is_node
from turnsfit.places import at_place, node_places, replaced
from turnsfit.schemas import Schema, need_schema
from turnsfit.schematext import read_schema
from turnsfit.tablesums import parting
from turnsfit.ways import is_plain_schema, plain_hull, way_of

NODE = ("x", (("y", ()), ("y", ("",))))
NODES = all_nodes(4, ("x", "y"))


class ExchangesTest(Case):
    def test_example(self):
        self.assertEqual(plain_or_exchange(schema=TWO)[0], "exchange")
        self.assertTrue(check_exchange(schema=TWO, value=(NODE, (0,), NODE, (1,))))

    def test_exchanged(self):
        chance = seeded(391)
        for _ in range(200):
            node, other = chance.choice(NODES), chance.choice(NODES)
            place, where = chance.choice(node_places(node)), chance.choice(node_places(other))
            self.assertEqual(exchanged(node=node, place=place, other=other, where=where), replaced(node, place, at_place(other, where)))
        self.assertEqual(exchanged(NODE, (0,), ("z", ("a",)), ()), ("x", (("z", ("a",)), ("y", ("",)))))

    def test_either_the_one_or_the_other(self):
        """A plain schema with the same documents, or an exchange that leads out: never both."""
        chance = seeded(392)
        told = [0, 0]
        for _ in range(200):
            schema = lively_schema(chance)
            found = plain_or_exchange(schema)
            self.assertIs(found[0] == "plain", is_within(plain_hull(schema), schema) is None)
            told[found[0] == "plain"] += 1
            if found[0] == "plain":
                need_schema(found[1])
                self.assertTrue(len(found) == 2 and is_plain_schema(found[1]))
                self.assertIsNone(parting(found[1], schema))
                fitting = [node for node in NODES if fits(schema, node)][:12]
                for node, other in itertools.product(fitting, fitting):
                    for place, where in itertools.product(node_places(node), node_places(other)):
                        self.assertFalse(check_exchange(schema, (node, place, other, where)))
            else:
                _, node, place, other, where = found
                self.assertTrue(fits(schema, node) and fits(schema, other) and way_of(node, place) == way_of(other, where))
                self.assertFalse(fits(schema, exchanged(node, place, other, where)))
                self.assertIs(check_exchange(schema, found[1:]), True)
        self.assertTrue(min(told) > 15, told)

    def test_schemas_of_which_no_document_fits(self):
        for none in EMPTY_ONES:
            word, hull = plain_or_exchange(none)
            self.assertEqual((word, is_plain_schema(hull), parting(hull, none)), ("plain", True, None))
        self.assertEqual(plain_or_exchange(read_schema("a b, a x -, b x #"))[0], "plain")
        self.assertEqual(plain_or_exchange(read_schema("a b, a x (c), b x (d), c y -, d y #"))[0], "plain")
        self.assertEqual(plain_or_exchange(read_schema("a b, a x (c c), b x (d d), c y -, d y #"))[0], "exchange")
        # Rivals that are dead, or under a dead type, lead to no exchange.
        self.assertEqual(plain_or_exchange(read_schema("a, a x [(b) (dead c)], b y -, c y #, dead y dead"))[0], "plain")

    def test_wrong_exchanges(self):
        right = (NODE, (0,), NODE, (1,))
        wrong = ((NODE, (0,), NODE, (0,)), (NODE, (1,), NODE, (1,)), (NODE, (), NODE, ()), (NODE, (0,), NODE, ()), (NODE, (1, 0), NODE, (0,)),
                 (NODE, (0,), NODE, (1, 0)), (NODE, (0,), NODE, (2,)), (NODE, [0], NODE, (1,)), (NODE, (False,), NODE, (1,)), (NODE, (0,), NODE, (True,)),
                 (("x", ()), (), NODE, ()), (NODE, (0,), ("x", ()), ()), right[:3], right + (0,), list(right), ("exchange",) + right)
        for value in wrong:
            self.assertIs(check_exchange(TWO, value), False)
        for value in odd_values():
            for other in (value, (value,) + right[1:], (NODE, value) + right[2:], right[:2] + (value, (1,)), right[:3] + (value,)):
                self.assertIs(check_exchange(TWO, other), False)
        self.assertFalse(check_exchange(Schema((), ()), right))

    def test_ways_of_exchanges(self):
        schema = read_schema("a b, a x (c d), b z (d), c y -, d y #")
        self.assertTrue(check_exchange(schema, (NODE, (0,), NODE, (1,))))
        self.assertFalse(check_exchange(schema, (NODE, (0,), ("z", (("y", ("",)),)), (0,))))

    def test_great(self):
        long = read_schema("a, a x (b c d e f), b y #, c y (b), d y (c c), e y (d d), f y (e e [b c]*)")
        found = plain_or_exchange(long)
        self.assertTrue(found[0] == "exchange" and check_exchange(long, found[1:]) and is_node(found[1]))
        deep = read_schema("a, a x (b), b y (c), c z (d), d w (e), e v [f (g g)], f u -, g u #")
        self.assertEqual(plain_or_exchange(deep)[0], "exchange")
        self.assertEqual(plain_or_exchange(read_schema("a, a x (b), b y (c), c z (d), d w (e), e v (f g), f u #?, g t -"))[0], "plain")


if __name__ == "__main__":
    unittest.main()
