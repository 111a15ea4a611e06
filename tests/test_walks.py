"""Points 61 to 63: asks, answers, and the walks that find them."""

import unittest

from tests.helping import GREAT, Case, nested, odd_values, seeded
from tests.test_fitting import all_typings
from tests.test_joined import lively_schema
from tests.test_tables import all_nodes
from turnsfit.asks import Ask, answer_paper, answers_by, check_answer, need_ask
from turnsfit.errors import InvalidAsk, InvalidSchema
from turnsfit.fitting import check_typing, fits, types_of, typing_of, typings_of
from turnsfit.places import at_place, node_places, places_of
from turnsfit.schemas import Schema, kinds_of
from turnsfit.schematext import read_schema
from turnsfit.walks import answers, from_below, from_both

TWO = Schema((("a", "x", ("row", (("one", "b"), ("one", "c")))), ("b", "y", ("empty",)), ("c", "y", ("text",))), ("a",))
NODE = ("x", (("y", ()), ("y", ("q",))))
ASK = Ask(TWO, ("c",))
NODES = all_nodes(4, ("x", "y"))


def random_ask(chance):
    schema = lively_schema(chance)
    return Ask(schema, tuple([kind for kind in kinds_of(schema) if chance.random() < .5]))


def giving_at(giving, place):
    for number in place:
        giving = giving[1][number]
    return giving


def plain_answers(ask, node):
    return tuple([place for place in node_places(node)
                  if any([giving_at(giving, place)[0] in ask.marked for giving in all_typings(ask.schema, node)])])


class AsksTest(Case):
    def test_example(self):
        self.assertEqual((answers(ask=ASK, node=NODE), answers(ASK, ("x", (("y", ("q",)),))), from_both(schema=TWO, node=NODE)),
                         (((1,),), (), (("a",), ((("b",), ()), (("c",), ("",))))))

    def test_class(self):
        ask = Ask(schema=[1], marked=GREAT)
        self.assertEqual((ask.schema, ask.marked), ([1], GREAT))
        self.assertTrue(ask == Ask([1], GREAT) and Ask(TWO, ()) == Ask(Schema(TWO.types, TWO.tops), ()))
        for other in (Ask([1], 1), Ask((1,), GREAT), [1], None, Schema([1], GREAT)):
            self.assertTrue(ask != other)

    def test_need_ask(self):
        for ask in (ASK, Ask(TWO, ()), Ask(TWO, ("a", "b", "c")), Ask(Schema((), ()), ())):
            self.assertIsNone(need_ask(value=ask))
        for value in odd_values() + [(TWO, ("c",)), TWO]:
            self.fails(InvalidAsk, -1, need_ask, value)
        for marked in (["c"], ("c", "b"), ("b", "b"), ("d",), ("",), "c", None, (1,), ("a", "b", "c", "d"), (("c",),)):
            self.fails(InvalidAsk, 0, need_ask, Ask(TWO, marked))
        # The errors of the schema come ahead.
        self.fails(InvalidSchema, -1, need_ask, Ask(None, ["c"]))
        self.fails(InvalidSchema, 0, need_ask, Ask(Schema((("a", "x", ("one", "b")),), ()), 5))
        self.fails(InvalidSchema, 3, need_ask, Ask(Schema(TWO.types, ("d",)), ("d",)))
        for value in odd_values():
            if value not in ((), ("a",)):
                self.fails(InvalidAsk, 0, need_ask, Ask(TWO, value))
            with self.assertRaises(InvalidSchema if not isinstance(value, Schema) or value != Schema((), ()) else InvalidAsk):
                need_ask(Ask(value, ("c",)))

    def test_answers(self):
        chance = seeded(621)
        told = 0
        for _ in range(80):
            ask = random_ask(chance)
            for node in chance.sample(NODES, 20) + [node for node in NODES if fits(ask.schema, node)][-20:]:
                plain = plain_answers(ask, node)
                told += len(plain) > 0
                self.assertEqual(answers(ask, node), plain)
                for giving in all_typings(ask.schema, node):
                    marked = tuple([place for place in node_places(node) if giving_at(giving, place)[0] in ask.marked])
                    self.assertEqual(answers_by(ask=ask, value=giving), marked)
                for place in node_places(node):
                    paper = answer_paper(ask=ask, node=node, place=place)
                    self.assertIs(paper is not None, place in plain)
                    if paper is not None:
                        self.assertTrue(check_typing(ask.schema, node, paper))
                        self.assertIs(check_answer(ask=ask, node=node, place=place, value=paper), True)
                    for giving in typings_of(ask.schema, node, 5):
                        self.assertIs(check_answer(ask, node, place, giving), giving_at(giving, place)[0] in ask.marked)
        self.assertTrue(told > 60, told)

    def test_walks(self):
        chance = seeded(631)
        for _ in range(80):
            schema = lively_schema(chance)
            for node in chance.sample(NODES, 40):
                below, both = from_below(schema=schema, node=node), from_both(schema, node)
                typings = all_typings(schema, node)
                for place in places_of(node):
                    thing = at_place(node, place)
                    if isinstance(thing, str):
                        self.assertEqual((giving_at(below, place), giving_at(both, place)), ("", ""))
                        continue
                    self.assertEqual(giving_at(below, place)[0], types_of(schema, thing))
                    self.assertEqual(giving_at(both, place)[0], tuple(sorted({giving_at(giving, place)[0] for giving in typings})))
                    self.assertEqual((len(giving_at(below, place)[1]), len(giving_at(both, place)[1])), (len(thing[1]),) * 2)

    def test_edges(self):
        nothing = Ask(TWO, ())
        self.assertEqual((answers(nothing, NODE), answer_paper(nothing, NODE, ()), answers_by(nothing, typing_of(TWO, NODE))), ((), None, ()))
        self.assertEqual((answers(Ask(TWO, ("a",)), NODE), answer_paper(Ask(TWO, ("a",)), NODE, ())), (((),), typing_of(TWO, NODE)))
        for node in (("y", ()), ("x", ()), ("none", ()), ("x", NODE[1] + ("",))):
            self.assertFalse(fits(TWO, node))
            every = Ask(TWO, ("a", "b", "c"))
            self.assertEqual((answers(every, node), answer_paper(every, node, ())), ((), None))
        self.assertEqual((from_below(Schema((), ()), NODE), from_both(Schema((), ()), NODE)), (((), (((), ()), ((), ("",)))),) * 2)
        self.assertEqual(from_both(Schema(TWO.types, ()), NODE), ((), (((), ()), ((), ("",)))))
        self.assertEqual(from_below(TWO, ("none", (("y", ()), "a"))), ((), ((("b",), ()), "")))
        many = read_schema("a b, a x [c d]*, b x [c d]*, c y -, d y #?")
        node = ("x", (("y", ()),) * 3)
        self.assertEqual((answers(Ask(many, ("d",)), node), len(typings_of(many, node, 99))), (((0,), (1,), (2,)), 16))

    def test_any_value(self):
        paper = typing_of(TWO, NODE)
        self.assertTrue(check_answer(ASK, NODE, (1,), paper))
        for value in odd_values():
            self.assertIs(check_answer(ASK, NODE, value, paper), False)
            self.assertIs(check_answer(ASK, NODE, (value,), paper), type(value) is int and value == 1)
            self.assertIs(check_answer(ASK, NODE, (1,), value), False)
        for place in ((), (0,), (1, 0), (2,), [1], (True,), (-1,), None):
            self.assertFalse(check_answer(ASK, NODE, place, paper))
        self.assertFalse(check_answer(ASK, NODE, (1,), list(paper)))
        self.assertFalse(check_answer(ASK, ("x", ()), (), ("a", ())))

    def test_great(self):
        schema = read_schema("a b, a x ([a b] #?)*, b x (a b? #)*, c y #, d y (c a)")
        ask = Ask(schema, ("a", "d"))
        deep = nested(("x", ()), 29, lambda inner: ("x", (inner, "a")))
        self.assertEqual(len(answers(ask, deep)), 30)
        for place in (node_places(deep)[0], node_places(deep)[-1]):
            self.assertTrue(check_answer(ask, deep, place, answer_paper(ask, deep, place)))
        beyond = nested(("x", ()), 300, lambda inner: ("x", (inner,)))
        self.assertEqual(len(answers(ask, beyond)), 301)
        self.assertEqual(answers_by(ask, typing_of(schema, deep)), tuple([place for place in node_places(deep)]))


if __name__ == "__main__":
    unittest.main()
