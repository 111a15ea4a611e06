"""Points 75 and 76: documents mended at the least cost."""

import unittest

from tests.helping import GREAT, Case, nested, odd_values, seeded
from tests.test_costs import NODE, PLAN, all_mends
from tests.test_merging import all_edits
from tests.test_schematext import random_schema
from tests.test_tables import all_nodes
from turnsfit.costs import check_mend, edit_cost, edits_cost, mend_cost, mend_edits, mend_made
from turnsfit.edits import done
from turnsfit.fitting import fits
from turnsfit.leastnodes import least_document
from turnsfit.mended import (check_low, distance, kept_places, least_mend, low_paper, mended, node_costs, sure_places)
from turnsfit.nodes import size_of
from turnsfit.places import at_place, node_places, places_of
from turnsfit.schemas import Schema, kinds_of
from turnsfit.schematext import read_schema, schema_text

MOST = 5
NODES = all_nodes(MOST, ("x", "y"))


def neighbours(node):
    """What one edit of cost 1 makes of a document, with names and texts of the search."""
    found = []
    for place in node_places(node):
        name, things = at_place(node, place)
        for other in ("x", "y"):
            if other != name:
                found.append(done(node, ("name", place, other)))
        for at in range(len(things) + 1):
            found.extend([done(node, ("put", place, at, thing)) for thing in ("", ("x", ()), ("y", ()))])
        found.extend([done(node, ("drop", place, at)) for at, thing in enumerate(things) if size_of(thing) == 1])
    return [other for other in found if size_of(other) <= MOST]


AROUND = {node: neighbours(node) for node in NODES if size_of(node) <= MOST}


def distances(schema):
    """The least number of such edits from each small document to one that fits, by rounds."""
    found = {node: 0 for node in AROUND if fits(schema, node)}
    last = list(found)
    while last:
        after = []
        for node in last:
            for other in AROUND[node]:
                if other not in found:
                    found[other] = found[node] + 1
                    after.append(other)
        last = after
    return found


def kept_by(mend, place=()):
    """The places of the things that a mend keeps."""
    found = [place]
    at = 0
    for step in mend[1]:
        if step[0] == "keep":
            found.extend([place + (at,)] if step[1] == "" else kept_by(step[1], place + (at,)))
        at += step[0] != "put"
    return found


class MendedTest(Case):
    def test_example(self):
        paper = low_paper(schema=PLAN, node=NODE)
        self.assertEqual((distance(schema=PLAN, node=NODE), check_low(schema=PLAN, node=NODE, value=paper, cost=2),
                          check_low(PLAN, NODE, paper, 3)), (2, True, False))
        self.assertEqual((sure_places(schema=PLAN, node=NODE), sure_places(PLAN, ("doc", (("head", ()), ("par", ()))))),
                         (((), (0,), (0, 0)), ((), (0,), (1,))))

    def test_against_a_plain_search(self):
        chance = seeded(751)
        far = 0
        for _ in range(30):
            schema = random_schema(chance)
            known = distances(schema)
            for node in chance.sample(NODES[:400], 12):
                cost = distance(schema, node)
                self.assertIs(cost is None, least_document(schema) is None)
                if cost is None:
                    continue
                far += cost > 1
                self.assertIs(cost == 0, fits(schema, node))
                self.assertTrue(cost <= size_of(node) + size_of(least_document(schema)) - 1)
                if size_of(node) + cost <= MOST:
                    self.assertEqual(cost, known[node], (schema_text(schema), node))
                else:
                    self.assertTrue(known.get(node, cost) >= cost)
                self.is_mended(schema, node, cost)
        self.assertTrue(far > 40, far)

    def is_mended(self, schema, node, cost):
        mend = least_mend(schema=schema, node=node)
        self.assertIs(check_mend(schema, node, mend), True)
        self.assertEqual((mend_cost(schema, node, mend), edits_cost(node, mend_edits(schema, node, mend))), (cost, cost))
        made = mended(schema=schema, node=node)
        self.assertTrue(fits(schema, made))
        if size_of(node) <= 4 and size_of(made) <= 4:
            self.assertTrue(distance(Schema(schema.types, schema.tops), made) == 0)
        paper = low_paper(schema, node)
        self.assertEqual([check_low(schema, node, paper, more) for more in (0, cost, cost + 1)], [True, True, False])

    def test_node_costs_and_places(self):
        """Against all mends that put one thing at most in each gap, where those are the cheapest."""
        chance = seeded(752)
        looked = 0
        for _ in range(60):
            schema = random_schema(chance)
            node = chance.choice(NODES[:200])
            costs = node_costs(schema=schema, node=node)
            self.assertEqual(len(costs), len(schema.types))
            by_kind = {kind: all_mends(schema, node, kind, 1, max([cost or 0 for cost in costs] + [0])) for kind in kinds_of(schema)}
            told = [min([cost for _, cost, _ in by_kind[kind]], default=None) for kind in kinds_of(schema)]
            for own, other in zip(costs, told):
                self.assertTrue(other is None or own <= other)
            if told != list(costs) or distance(schema, node) is None:
                continue
            looked += 1
            best = [kept_by(mend) for kind in schema.tops for mend, cost, _ in by_kind[kind] if cost == distance(schema, node)]
            kept, sure = kept_places(schema=schema, node=node), sure_places(schema, node)
            for place in places_of(node):
                self.assertTrue(place in kept or not any(place in row for row in best), (schema_text(schema), node))
                self.assertTrue(place not in sure or all(place in row for row in best), (schema_text(schema), node))
            self.assertTrue(set(sure) <= set(kept) and list(kept) == sorted(kept) and list(sure) == sorted(sure) and sure[0] == ())
        self.assertTrue(looked > 15, looked)

    def test_places_of_all_least_mends(self):
        """Schemas whose cheapest mends put one thing at most in each gap: the places are just those of these mends."""
        chance = seeded(753)
        some = 0
        for text in ("a, a x ([a b] [a #]?)?, b y #?", "a b, a x (# b?), b y [a -]", "a, a x (b b)?, b y [# -]", "a, a x [b c]*, b y #?, c y c?",
                     "a, a x [(b #) (# c)], b y -, c y #?", "a b c, a x (b c)?, b x -, c y [# a]"):
            schema = read_schema(text)
            for node in chance.sample(NODES[:400], 14) + [("x", (("y", ()), ("y", ()))), ("y", (("x", ("",)), ""))]:
                mends = [pair for kind in schema.tops for pair in all_mends(schema, node, kind, 2, distance(schema, node))]
                best = [kept_by(mend) for mend, cost, _ in mends if cost == distance(schema, node)]
                self.assertTrue(best, (text, node))
                self.assertEqual(kept_places(schema, node), tuple([place for place in places_of(node) if any(place in row for row in best)]))
                self.assertEqual(sure_places(schema, node), tuple([place for place in places_of(node) if all(place in row for row in best)]))
                some += kept_places(schema, node) != sure_places(schema, node)
        self.assertTrue(some > 5, some)

    def test_an_edit_changes_it_by_its_cost(self):
        chance = seeded(754)
        for _ in range(60):
            schema = random_schema(chance)
            node = chance.choice(NODES[:300])
            cost = distance(schema, node)
            for edit in chance.sample(all_edits(node), 3) if cost is not None else []:
                self.assertTrue(abs(distance(schema, done(node, edit)) - cost) <= edit_cost(node, edit))

    def test_either_of_two(self):
        """Two schemas side by side, the types of the one named anew."""
        one, other = read_schema("a, a x (b b), b y #"), read_schema("c, c y [d #], d x -")
        either = Schema(one.types + other.types, ("a", "c"))
        for node in NODES[:300:7]:
            self.assertEqual(distance(either, node), min(distance(one, node), distance(other, node)))
            nothing = Schema(one.types + (("n", "x", ("one", "n")),), ("a", "n"))
            self.assertEqual(distance(nothing, node), distance(one, node))

    def test_nothing_fits(self):
        for schema in (Schema((), ()), read_schema("-, a x -"), read_schema("a, a x a, b y -")):
            self.assertEqual([call(schema, NODE) for call in (distance, least_mend, mended, low_paper, kept_places, sure_places)],
                             [None] * 4 + [(), ()])
        self.assertEqual((node_costs(Schema((), ()), NODE), node_costs(read_schema("a, a x a, b y -"), NODE)), ((), (None, 4)))

    def test_types_that_are_not_alive(self):
        """A type that is not alive can not be put or kept: nothing is cheaper by it."""
        schema = read_schema("a, a x [(b b) (c c c c c)], b y b, c y (# #)")
        for node in (("x", ()), ("x", (("y", ()), ("y", ()))), ("y", (("y", (("y", ()),)),))):
            cost = distance(schema, node)
            paper = low_paper(schema, node)
            self.assertEqual([check_low(schema, node, paper, more) for more in (cost, cost + 1)], [True, False])
            self.assertIsNone(node_costs(schema, node)[1])
        self.assertEqual(distance(schema, ("x", ())), 15)

    def test_documents_that_fit_already(self):
        node = ("doc", (("head", ("a",)), ("par", ("x", "y"))))
        self.assertEqual((distance(PLAN, node), mended(PLAN, node), kept_places(PLAN, node), sure_places(PLAN, node)),
                         (0, node, places_of(node), places_of(node)))
        self.assertEqual(least_mend(PLAN, node)[1][0], ("keep", ("head", (("keep", ""),))))
        self.assertIs(check_low(PLAN, node, low_paper(PLAN, node), 0), True)
        self.assertIs(check_low(PLAN, node, low_paper(PLAN, node), 1), False)

    def test_wrong_papers(self):
        sizes, rows = low_paper(PLAN, NODE)
        top, par = rows
        self.assertEqual(len(rows), 2)
        right = (sizes, rows)
        self.assertIs(check_low(PLAN, NODE, right, 2), True)
        higher = ((top[0][0] + 1,) + top[0][1:], top[1])
        cheaper = ((par[0][0], par[0][1] + 1, par[0][2]), par[1])
        for value in (list(right), (sizes,), right + ((),), (list(sizes), rows), (sizes, list(rows)), (sizes, rows[:1]), (sizes, rows + (par,)),
                      (sizes, (top, list(par))), (sizes, ((list(top[0]), top[1]), par)), (sizes, ((top[0], list(top[1])), par)),
                      (sizes, ((top[0][:2], top[1]), par)), (sizes, ((top[0], top[1][:2]), par)), (sizes, (higher, par)), (sizes, (top, cheaper)),
                      ((sizes[0] + 1,) + sizes[1:], rows), (sizes, ((top[0][:2] + (True,), top[1]), par)), (sizes, (top, ((None,) * 3, par[1]))),
                      (sizes, rows[::-1]), (sizes, (top, (par[0], (par[1][0],) * 3))), (sizes, ((top[0], (None,) * 3), par)), None, ()):
            self.assertIs(check_low(PLAN, NODE, value, 2), False, value)
        low = (sizes, ((tuple([0, 0, 0]), top[1]), par))
        self.assertEqual([check_low(PLAN, NODE, low, cost) for cost in (0, 1)], [True, False])
        self.assertIs(check_low(PLAN, NODE, right, GREAT), False)
        self.assertIs(check_low(Schema(PLAN.types, ()), NODE, right, GREAT), True)
        self.assertIs(check_low(Schema((), ()), ("x", ()), ((), (((), ()),)), 5), True)

    def test_any_value(self):
        sizes, rows = low_paper(PLAN, NODE)
        for value in odd_values():
            for paper in (value, (value, rows), (sizes, value), (sizes, (value, rows[1])), (sizes, ((value, rows[0][1]), rows[1])),
                          (sizes, ((rows[0][0], value), rows[1])), (sizes, ((rows[0][0], (value,) * 3), rows[1])), ((value,) * 3, rows),
                          (sizes, (((value,) * 3, rows[0][1]), rows[1]))):
                self.assertIn(check_low(PLAN, NODE, paper, 2), (False,))

    def test_great(self):
        dense = " ([" + " ".join("abcde") + "]* #? [" + " ".join("abcd") + "]* (a b e))"
        schema = read_schema("a, " + ", ".join([kind + " " + name + dense for kind, name in zip("abcd", "xyxy")]) + ", e z #*")
        wide = ("x", tuple([("y", ("",) * (number % 2)) for number in range(19)]))
        deep = nested(("x", ("",)), 27, lambda inner: ("x", (inner,)))
        for node in (wide, deep):
            self.assertIsNone(distance(schema, node))
        for text in ("a, a x ([a b c d #]* #? [a b]* (e e)), b y [a #]*, c x (#* d?), d z (a? b?), e w -",
                     "a b, a x ([b #]* b (b #) [b #] [b #]), b y ([a b]* a [a b #] [a #])?, c x c, d x -, e y -"):
            schema = read_schema(text)
            for node in (wide, deep):
                cost = distance(schema, node)
                self.assertEqual(mend_cost(schema, node, least_mend(schema, node)), cost)
                self.assertTrue(fits(schema, mend_made(schema, node, least_mend(schema, node))))
                self.assertTrue(check_low(schema, node, low_paper(schema, node), cost))
                self.assertTrue(set(sure_places(schema, node)) <= set(kept_places(schema, node)))


if __name__ == "__main__":
    unittest.main()
