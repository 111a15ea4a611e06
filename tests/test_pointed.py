"""Points 64 to 66: pointed documents, asks compared and put together."""

import unittest

from tests.helping import Case, seeded
from tests.test_joined import EMPTY_ONES, lively_schema
from tests.test_tables import all_nodes
from tests.test_walks import ASK, NODE, TWO, plain_answers, random_ask
from turnsfit.askings import both_ask, either_ask
from turnsfit.asks import Ask, need_ask
from turnsfit.errors import Refused
from turnsfit.fitting import fits
from turnsfit.nodes import least_of, size_of
from turnsfit.places import at_place, node_places
from turnsfit.pointed import (answer_beyond, answered, is_idle, pointed, pointed_node, unanswered, unpointed)
from turnsfit.schemas import Schema, kinds_of, need_schema, node_names
from turnsfit.schematext import read_schema
from turnsfit.walks import answers

NODES = all_nodes(4, ("x", "y"))
ALL_POINTED = [node for node in all_nodes(4, ("x", "y", "here")) if node[0] != "here"]


class PointedTest(Case):
    def test_example(self):
        self.assertEqual((pointed_node(node=NODE, place=(1,), name="here"), unanswered(ask=ASK), answer_beyond(one=ASK, other=Ask(TWO, ("b", "c")))),
                         (("x", (("y", ()), ("y", (("here", ()), "q")))), None, None))

    def test_there_and_back(self):
        chance = seeded(641)
        for node in chance.sample(NODES, 60) + [("a", ())]:
            for place in node_places(node):
                made = pointed_node(node, place, "here")
                self.assertEqual(at_place(made, place + (0,)), ("here", ()))
                self.assertEqual(size_of(made), size_of(node) + 1)
                self.assertEqual(unpointed(node=made, name="here"), (node, place))

    def test_schemas_of_pointed_nodes(self):
        chance = seeded(642)
        for _ in range(60):
            ask = random_ask(chance)
            schema = pointed(ask=ask, name="here")
            need_schema(schema)
            known = {pointed_node(node, place, "here") for node in NODES if size_of(node) < 4 for place in plain_answers(ask, node)}
            self.assertEqual({node for node in ALL_POINTED if fits(schema, node)}, known)
            for node in chance.sample(NODES, 20):
                self.assertFalse(fits(schema, node))
                for place in node_places(node):
                    self.assertIs(fits(schema, pointed_node(node, place, "here")), place in answers(ask, node))
            for name in node_names(ask.schema):
                self.fails(Refused, "name", pointed, ask, name)
        self.assertTrue(fits(pointed(ASK, "z"), pointed_node(NODE, (1,), "z")))
        dead = Ask(read_schema("a, a x [b dead]*, b y -, dead gone dead"), ("b",))
        self.fails(Refused, "name", pointed, dead, "gone")

    def test_answered(self):
        chance = seeded(643)
        told = [0, 0]
        for _ in range(80):
            ask = random_ask(chance)
            schema = answered(ask=ask)
            need_schema(schema)
            fitting = [node for node in NODES if fits(ask.schema, node)]
            for node in fitting + chance.sample(NODES, 20):
                self.assertIs(fits(schema, node), len(answers(ask, node)) > 0)
            least = unanswered(ask)
            without = [node for node in fitting if not plain_answers(ask, node)]
            told[least is None] += 1
            if least is None or size_of(least) > 4:
                self.assertEqual(without, [])
            else:
                self.assertEqual(least, least_of(without))
            if least is not None:
                self.assertTrue(fits(ask.schema, least) and answers(ask, least) == ())
            self.assertTrue(not is_idle(ask) or not [node for node in fitting if answers(ask, node)])
        self.assertTrue(min(told) > 10, told)

    def test_answers_beyond(self):
        chance = seeded(651)
        told = [0, 0]
        for _ in range(150):
            one, other = random_ask(chance), random_ask(chance)
            if chance.random() < .5:
                other = Ask(one.schema, tuple([kind for kind in kinds_of(one.schema) if kind in one.marked or chance.random() < .3]))
            found = answer_beyond(one, other)
            pairs = [(node, place) for node in NODES for place in answers(one, node) if place not in answers(other, node)]
            told[found is None] += 1
            if found is None:
                self.assertEqual(pairs, [])
                continue
            self.assertTrue(found[1] in answers(one, found[0]) and found[1] not in answers(other, found[0]))
            self.assertEqual(min([size_of(node) for node, _ in pairs], default=5) if size_of(found[0]) < 5 else size_of(found[0]), size_of(found[0]))
            self.assertTrue(size_of(found[0]) < 5 or not pairs)
        self.assertTrue(min(told) > 30, told)

    def test_idle_asks(self):
        for none in EMPTY_ONES:
            ask = Ask(none, kinds_of(none))
            self.assertEqual((is_idle(ask), unanswered(ask), answer_beyond(ask, ASK), answer_beyond(ask, ask)), (True, None, None, None))
            self.assertEqual(answer_beyond(ASK, ask), (("x", (("y", ()), ("y", ("",)))), (1,)))
        self.assertEqual((is_idle(Ask(TWO, ())), is_idle(ask=ASK), unanswered(Ask(TWO, ()))), (True, False, ("x", (("y", ()), ("y", ("",))))))
        apart = read_schema("a, a x b?, b y -, c y -, dead y dead")
        self.assertEqual((is_idle(Ask(apart, ("c", "dead"))), is_idle(Ask(apart, ("b",))), unanswered(Ask(apart, ("b",)))), (True, False, ("x", ())))

    def test_names_that_the_schemas_have(self):
        every = read_schema("a, a a b?, b b c?, c c d?, d d -")
        self.assertEqual(answer_beyond(Ask(every, ("d",)), Ask(every, ("a", "b", "c"))), (("a", (("b", (("c", (("d", ()),)),)),)), (0, 0, 0)))

    def test_asks_put_together(self):
        chance = seeded(661)
        for _ in range(60):
            one, other = random_ask(chance), random_ask(chance)
            either, both = either_ask(one=one, other=other), both_ask(one=one, other=other)
            need_ask(either)
            need_ask(both)
            for node in chance.sample(NODES, 20) + [node for node in NODES if fits(one.schema, node)][:10]:
                first, second = set(answers(one, node)), set(answers(other, node))
                self.assertEqual(answers(either, node), tuple(sorted(first | second)))
                self.assertEqual(answers(both, node), tuple(sorted(first & second)))
            self.assertIsNone(answer_beyond(both, one))
            self.assertIsNone(answer_beyond(one, either))
            self.assertEqual(answer_beyond(one, other) is None, answer_beyond(either, other) is None)
        self.assertTrue(is_idle(both_ask(ASK, Ask(Schema((), ()), ()))))
        self.assertIsNone(answer_beyond(either_ask(ASK, Ask(Schema((), ()), ())), ASK))

    def test_great(self):
        wide = Schema(read_schema("a b, a x ([a b] #?)*, b x (a b? #)*, c y #, d y (c a)").types, ("a", "b"))
        one, other = Ask(wide, ("a", "d")), Ask(wide, ("b",))
        self.assertIsNone(answer_beyond(one, either_ask(one, other)))
        three = lively_schema(seeded(669), 3)
        both = both_ask(Ask(three, kinds_of(three)), Ask(three, kinds_of(three)[:1]))
        self.assertIsNone(answer_beyond(both_ask(both, both), Ask(three, kinds_of(three)[:1])))


if __name__ == "__main__":
    unittest.main()
