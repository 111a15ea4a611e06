"""Point 85: facts, and what follows from them."""

import itertools
import unittest

from tests.helping import Case, seeded
from turnsfit.asks import Ask, answer_paper
from turnsfit.composed import keeping
from turnsfit.costs import mend_cost
from turnsfit.doubled import single_paper, two_typings
from turnsfit.facts import all_facts, facts_of, told_by
from turnsfit.fitting import fits, giving_of, typing_of
from turnsfit.growth import growing
from turnsfit.leastnodes import least_node, sizes_paper
from turnsfit.leasttables import least_table
from turnsfit.mended import distance, least_mend, low_paper
from turnsfit.refusals import refusal
from turnsfit.schemas import Schema
from turnsfit.schematext import read_schema, schema_text
from turnsfit.sheets import sheet_holds
from turnsfit.tables import Table
from turnsfit.turnings import Turning, made_document
from turnsfit.turningtext import read_turning, turning_text

PLAN = read_schema("doc, doc doc (head [par old]*), head head #, old box (par old+), par par #")
FEW = read_schema("doc, doc doc (head head?), head head #")
NODE = ("doc", (("head", ("x",)),))
OTHER = ("doc", (("par", ("x",)),))


def of_lengths(lengths):
    """A schema of the documents x with so many texts; of nothing for no lengths."""
    rows = tuple([("row", (("text",),) * many) if many else ("empty",) for many in lengths])
    return Schema((("a", "x", ("either", rows) if rows else ("one", "a")),), ("a",))


def node(many):
    return ("x", ("",) * many)


def key(thing):
    if isinstance(thing, Schema):
        return "schema " + schema_text(thing)
    if isinstance(thing, Turning):
        return "turning " + turning_text(thing)
    if isinstance(thing, Table):
        return "table " + repr(vars(thing))
    if isinstance(thing, tuple):
        return tuple([key(part) for part in thing])
    return thing


def as_keys(facts):
    return [(word, key(question), answer) for word, question, answer in facts]


def plain_closure(facts):
    """All that follows, by trying each rule on all pairs of facts until nothing comes."""
    found = {(word, key(question)): (word, question, answer) for word, question, answer in facts}
    given = [key(question[1]) for word, question, _ in facts if word in ("fits", "cost")]
    while True:
        many = len(found)
        now = list(found.values())
        for fact in now:
            for new in alone(fact):
                found.setdefault((new[0], key(new[1])), new)
        for one, other in itertools.product(now, now):
            for new in both(one, other, given):
                found.setdefault((new[0], key(new[1])), new)
        if len(found) == many:
            return list(found.values())


def alone(fact):
    word, question, answer = fact
    if word == "fits" and answer:
        return [("empty", question[0], False), ("cost", question, 0)]
    return [("fits", question, answer == 0)] if word == "cost" else []


def both(one, other, given):
    (word, first, answer), (other_word, second, other_answer) = one, other
    found = []
    if word == other_word == "fits" and answer and not other_answer and first[1] == second[1]:
        found.append(("within", (first[0], second[0]), False))
    if word == "within" and answer:
        inner, outer = first
        if other_word == "fits" and other_answer and second[0] == inner:
            found.append(("fits", (outer, second[1]), True))
        if other_word == "fits" and not other_answer and second[0] == outer:
            found.append(("fits", (inner, second[1]), False))
        if other_word == "empty" and other_answer and second == outer:
            found.append(("empty", inner, True))
        if other_word == "empty" and not other_answer and second == inner:
            found.append(("empty", outer, False))
        if other_word == "within" and other_answer and second[0] == outer:
            found.append(("within", (inner, second[1]), True))
        if other_word == "leads" and other_answer and second[1] == outer:
            found.append(("leads", (second[0], inner, second[2]), True))
        if other_word == "leads" and other_answer and second[2] == inner:
            found.append(("leads", (second[0], second[1], outer), True))
    if word == "leads" and answer and other_word == "fits" and other_answer and second[0] == first[1] and key(second[1]) in given:
        found.append(("fits", (first[2], made_document(first[0], second[1])), True))
    return found


class FactsTest(Case):
    def test_sheets_about_documents(self):
        self.assertEqual(facts_of(sheet=("fits", (PLAN, NODE), typing_of(PLAN, NODE))), (("fits", (PLAN, NODE), True),))
        self.assertEqual(facts_of(("unfit", (PLAN, OTHER), refusal(PLAN, OTHER))), (("fits", (PLAN, OTHER), False),))
        for told in (NODE, OTHER):
            mend = least_mend(PLAN, told)
            self.assertEqual(facts_of(("costs", (PLAN, told), (mend, low_paper(PLAN, told)))),
                             (("cost", (PLAN, told), distance(PLAN, told)),))
            self.assertEqual(mend_cost(PLAN, told, mend), distance(PLAN, told))
        ask = Ask(PLAN, ("head",))
        self.assertEqual(facts_of(("answer", (ask, NODE, (0,)), typing_of(PLAN, NODE))),
                         (("answer", (ask, NODE, (0,)), True), ("fits", (PLAN, NODE), True)))

    def test_sheets_about_one_schema(self):
        double = read_schema("a, a x [b c], b y -, c y -")
        found = two_typings(double)
        for sheet, facts in ((("single", FEW, single_paper(FEW)), (("single", FEW, True),)),
                             (("twice", double, found), (("single", double, False), ("fits", (double, found[0]), True))),
                             (("some", FEW, (NODE, typing_of(FEW, NODE))), (("empty", FEW, False), ("fits", (FEW, NODE), True))),
                             (("none", of_lengths(()), ("a",)), (("empty", of_lengths(()), True),)),
                             (("alive", PLAN, ("par", "head")), (("alive", (PLAN, "par"), True), ("alive", (PLAN, "head"), True))),
                             (("dead", PLAN, ("old", "old")), (("alive", (PLAN, "old"), False),) * 2), (("alive", PLAN, ()), ()),
                             (("plain", FEW, (PLAN, (), ())), (("plain", FEW, True), ("within", (FEW, PLAN), True), ("within", (PLAN, FEW), True))),
                             (("exchange", double, (NODE, (0,), NODE, (0,))), (("plain", double, False),)),
                             (("smallest", (PLAN, "par"), (least_node(PLAN, "par"), giving_of(PLAN, ("par", ("",)), "par"), sizes_paper(PLAN))),
                              (("size", (PLAN, "par"), 2), ("alive", (PLAN, "par"), True)))):
            self.assertEqual(facts_of(sheet), facts)
            self.assertIsInstance(facts_of(sheet), tuple)

    def test_other_sheets(self):
        table = least_table(FEW)
        self.assertEqual(facts_of(("least", table, ((), ()))), (("states", table, len(table.texts)),))
        self.assertEqual(facts_of(("within", (FEW, PLAN), ())), (("within", (FEW, PLAN), True),))
        self.assertEqual(facts_of(("beyond", (PLAN, FEW), (NODE, typing_of(PLAN, NODE), refusal(FEW, OTHER)))),
                         (("within", (PLAN, FEW), False), ("fits", (PLAN, NODE), True), ("fits", (FEW, NODE), False)))
        turning = keeping(("doc", "head"))
        self.assertEqual(facts_of(("leads", (turning, FEW, PLAN), ())), (("leads", (turning, FEW, PLAN), True),))
        self.assertEqual(facts_of(("breaks", (turning, PLAN, FEW), (NODE, ()))),
                         (("leads", (turning, PLAN, FEW), False), ("fits", (PLAN, NODE), True)))
        twice = read_turning("a, a # *, a x !a !a")
        self.assertEqual(facts_of(("growing", twice, growing(twice))), (("growing", twice, True),))

    def test_true_asks(self):
        ask = Ask(PLAN, ("head", "par"))
        sheet = ("answer", (ask, NODE, (0,)), answer_paper(ask, NODE, (0,)))
        self.assertTrue(sheet_holds(sheet))
        facts = facts_of(sheet)
        self.assertEqual(facts, (("answer", (ask, NODE, (0,)), True), ("fits", (PLAN, NODE), True)))
        self.assertEqual((told_by(facts, "empty", PLAN), told_by(facts, "cost", (PLAN, NODE)), told_by(facts, "answer", (Ask(PLAN, ("head", "par")), NODE, (0,))),
                          told_by(facts, "answer", (Ask(PLAN, ("head",)), NODE, (0,)))), (False, 0, True, None))

    def test_rules_one_by_one(self):
        one, other, third = [of_lengths(lengths) for lengths in ((1,), (1, 2), (1, 2, 3))]
        turning = read_turning('a, a # *, a x x(!a "")')
        for given, word, question, answer in (
                ([("fits", (one, node(1)), True)], "empty", one, False), ([("fits", (one, node(1)), True)], "cost", (one, node(1)), 0),
                ([("cost", (one, node(1)), 0)], "fits", (one, node(1)), True), ([("cost", (one, node(3)), 2)], "fits", (one, node(3)), False),
                ([("cost", (one, node(1)), 0)], "empty", one, False), ([("cost", (one, node(3)), 2)], "empty", one, None),
                ([("fits", (other, node(2)), True), ("cost", (one, node(2)), 1)], "within", (other, one), False),
                ([("within", (one, other), True), ("fits", (one, node(1)), True)], "cost", (other, node(1)), 0),
                ([("within", (one, other), True), ("fits", (other, node(3)), False)], "fits", (one, node(3)), False),
                ([("within", (one, other), True), ("fits", (other, node(1)), True)], "fits", (one, node(1)), None),
                ([("within", (one, other), True), ("empty", one, False)], "empty", other, False),
                ([("within", (one, other), True), ("empty", other, False)], "empty", one, None),
                ([("within", (of_lengths(()), one), True), ("empty", one, True)], "empty", of_lengths(()), True),
                ([("within", (one, other), True), ("within", (other, third), True)], "within", (one, third), True),
                ([("within", (one, other), True), ("leads", (turning, other, third), True)], "leads", (turning, one, third), True),
                ([("within", (other, third), True), ("leads", (turning, one, other), True)], "leads", (turning, one, third), True),
                ([("within", (one, other), True), ("leads", (turning, third, other), True)], "leads", (turning, third, one), None),
                ([("leads", (turning, one, other), True), ("fits", (one, node(1)), True)], "fits", (other, node(2)), True),
                ([("leads", (turning, one, other), True), ("cost", (one, node(1)), 0)], "fits", (other, node(2)), True),
                ([("leads", (turning, one, other), True), ("fits", (one, node(3)), False)], "fits", (other, node(4)), None),
                ([("within", (one, other), False), ("fits", (one, node(1)), True)], "fits", (other, node(1)), None),
                ([("single", one, True), ("growing", turning, True)], "growing", turning, True), ([], "growing", turning, None)):
            for facts in (given, tuple(given[::-1])):
                self.assertEqual(told_by(facts=facts, word=word, question=question), answer, (word, as_keys(given)))
                told = all_facts(facts=facts)
                self.assertEqual([fact for fact in as_keys(told) if fact[:2] == (word, key(question))],
                                 [] if answer is None else [(word, key(question), answer)])

    def test_only_documents_of_given_facts(self):
        """What is made of a made document is told only if a given fact tells of it."""
        schemas = [of_lengths((many,)) for many in range(1, 5)]
        turning = read_turning('a, a # *, a x x(!a "")')
        leads = [("leads", (turning, one, other), True) for one, other in zip(schemas, schemas[1:])]
        given = leads + [("fits", (schemas[0], node(1)), True)]
        self.assertEqual([told_by(given, "fits", (schema, node(at + 1))) for at, schema in enumerate(schemas)], [True, True, None, None])
        for more in (("cost", (schemas[3], node(2)), 2), ("fits", (schemas[3], node(2)), False), ("cost", (schemas[1], node(2)), 0)):
            self.assertEqual([told_by(given + [more], "fits", (schema, node(at + 1))) for at, schema in enumerate(schemas)],
                             [True, True, True, None])

    def test_none_twice(self):
        ask = Ask(FEW, ())
        given = [("fits", (FEW, NODE), True)] * 3 + [("empty", read_schema(schema_text(FEW)), False), ("answer", (ask, NODE, ()), True),
                                                     ("answer", (Ask(FEW, ()), NODE, ()), True), ("alive", (PLAN, "old"), False)]
        told = all_facts(given)
        self.assertEqual([fact[0] for fact in told].count("answer"), 1)
        self.assertEqual(len(told), 5)
        self.assertIsInstance(told, tuple)
        self.assertEqual(all_facts(()), ())
        self.assertIs(told_by(given, "answer", (Ask(FEW, ()), NODE, ())), True)
        self.assertIs(told_by(given, "alive", (PLAN, "old")), False)

    def test_against_a_plain_closure(self):
        chance = seeded(851)
        lots = [lengths for many in range(4) for lengths in itertools.combinations(range(3), many)]
        turnings = [keeping(("x",)), read_turning('a, a # *, a x x(!a "")'), read_turning('a, a # -, a x x(!a)')]
        lengths_made = [lambda many: many, lambda many: many + 1, lambda many: 0]
        derived = 0
        for _ in range(120):
            true = []
            for _ in range(chance.randint(1, 12)):
                one, other = chance.choice(lots), chance.choice(lots)
                schema = of_lengths(one)
                word = chance.random()
                if word < .3:
                    many = chance.randrange(4)
                    true.append(("fits", (schema, node(many)), many in one))
                elif word < .4 and one:
                    many = chance.randrange(4)
                    true.append(("cost", (schema, node(many)), distance(schema, node(many))))
                elif word < .5:
                    true.append(("empty", schema, not one))
                elif word < .8:
                    true.append(("within", (schema, of_lengths(other)), set(one) <= set(other)))
                else:
                    at = chance.randrange(3)
                    true.append(("leads", (turnings[at], schema, of_lengths(other)), all(lengths_made[at](many) in other for many in one)))
            told = all_facts(true)
            self.assertEqual(sorted(as_keys(told), key=repr), sorted(as_keys(plain_closure(true)), key=repr))
            derived += len(told) - len({repr(fact) for fact in as_keys(true)})
            for word, question, answer in told:
                self.assertEqual(told_by(true, word, question), answer)
                if word == "fits":
                    self.assertIs(fits(*question), answer)
        self.assertTrue(derived > 100, derived)

    def test_great(self):
        schemas = [of_lengths(tuple(range(many))) for many in range(1, 21)]
        facts = [("within", (one, other), True) for one, other in zip(schemas, schemas[1:])]
        facts += [("fits", (schemas[at % 5], node(0)), True) for at in range(10)]
        facts += [("leads", (keeping(("x",)), schemas[at], schemas[at + 3]), True) for at in range(17)]
        facts += [("cost", (schemas[2], node(5 + at)), 3 + at) for at in range(14)]
        told = all_facts(facts)
        self.assertTrue(len(told) > 400)
        self.assertEqual(len(told), len(set([repr(fact) for fact in as_keys(told)])))


if __name__ == "__main__":
    unittest.main()
