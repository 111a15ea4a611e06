"""Points 72 and 73: what edits and mends cost, and what mends make."""

import itertools
import unittest

from tests.helping import Case, nested, odd_values, seeded
from tests.test_merging import all_edits, random_edits
from tests.test_schematext import random_schema
from tests.test_tables import all_nodes
from turnsfit.alive import alive_types
from turnsfit.costs import check_mend, edit_cost, edits_cost, mend_cost, mend_edits, mend_made
from turnsfit.edits import all_done, done
from turnsfit.fitting import fits
from turnsfit.formulas import spells
from turnsfit.leastnodes import least_node
from turnsfit.mended import least_mend
from turnsfit.nodes import forest_size, size_of
from turnsfit.schemas import Schema, kinds_of, name_for
from turnsfit.schematext import read_schema, schema_text

PLAN = read_schema("doc, doc doc (head par*), head head #, par par #*")
NODE = ("doc", (("par", ("a",)), "b"))
MEND = ("doc", (("put", "head"), ("keep", ("par", (("keep", ""),))), ("drop",)))


def all_mends(schema, node, kind, puts, most=99):
    """All mends of a node with a type that put few things, each with its cost and what it makes, by plain trial."""
    letters = [("", "")] + [(other, least_node(schema, other)) for other in alive_types(schema)]
    rows = [((), (), (), 0)]
    for thing in node[1] + (None,):
        for _ in range(puts):
            rows += [(steps + (("put", letter),), row + (letter,), made + (least,), cost + size_of(least))
                     for steps, row, made, cost in rows for letter, least in letters if cost + size_of(least) <= most]
            rows = list(dict.fromkeys(rows))
        if thing is None:
            break
        if isinstance(thing, str):
            kept = [("", "", thing, 0)]
        else:
            kept = [(mend, other, made, cost) for other in kinds_of(schema)
                    for mend, cost, made in all_mends(schema, thing, other, puts, most)]
        rows = [(steps + (("drop",),), row, made, cost + size_of(thing)) for steps, row, made, cost in rows] + \
            [(steps + (("keep", part),), row + (letter,), made + (whole,), cost + more)
             for steps, row, made, cost in rows for part, letter, whole, more in kept]
        rows = [row for row in rows if row[3] <= most]
    name = name_for(schema, kind)
    formula = [formula for other, _, formula in schema.types if other == kind][0]
    return [((kind, steps), cost + (name != node[0]), (name, made)) for steps, row, made, cost in rows if spells(formula, row)]


class CostsTest(Case):
    def test_example(self):
        self.assertEqual((check_mend(PLAN, NODE, MEND), mend_cost(PLAN, NODE, MEND), mend_made(PLAN, NODE, MEND)),
                         (True, 3, ("doc", (("head", ("",)), ("par", ("a",))))))
        self.assertEqual(edits_cost(node=NODE, edits=(("drop", (), 1), ("name", (0,), "head"))), 2)

    def test_edits(self):
        thing = ("a", (("b", ()), ""))
        for edit, cost in ((("put", (), 0, thing), 3), (("put", (), 0, ""), 1), (("drop", (), 0), 2), (("drop", (), 1), 1),
                           (("name", (), "doc"), 0), (("name", (), "q"), 1), (("say", (), 1, "b"), 0), (("say", (0,), 0, "z"), 0),
                           (("name", (0,), "doc"), 1)):
            self.assertEqual(edit_cost(node=NODE, edit=edit), cost)
        self.assertEqual((edits_cost(NODE, ()), edits_cost(NODE, [("name", (), "q"), ("name", (), "doc")])), (0, 2))
        chance = seeded(721)
        for _ in range(60):
            node = chance.choice(all_nodes(4, ("x", "y")))
            edits = random_edits(chance, node, 5)
            costs = []
            now = node
            for edit in edits:
                costs.append(edit_cost(now, edit))
                after = done(now, edit)
                self.assertTrue(abs(size_of(after) - size_of(now)) in (costs[-1], 0))
                now = after
            self.assertEqual(edits_cost(node, edits), sum(costs))

    def test_mends(self):
        chance = seeded(731)
        counted = 0
        nodes = all_nodes(4, ("x", "y"))
        for _ in range(60):
            schema = random_schema(chance)
            node = chance.choice(nodes)
            for kind in kinds_of(schema):
                mends = all_mends(schema, node, kind, 1, 4)
                for mend, cost, made in chance.sample(mends, min(len(mends), 15)):
                    counted += 1
                    self.assertIs(check_mend(schema=schema, node=node, value=mend), kind in schema.tops, (schema_text(schema), mend))
                    self.assertEqual(mend_cost(schema=schema, node=node, mend=mend), cost)
                    self.assertEqual(mend_made(schema=schema, node=node, mend=mend), made)
                    self.assertIs(fits(Schema(schema.types, (kind,)), made), True)
                    edits = mend_edits(schema=schema, node=node, mend=mend)
                    self.assertEqual((all_done(node, edits), edits_cost(node, edits)), (made, cost))
                    self.is_wrong_somehow(schema, node, mend, mends)
        self.assertTrue(counted > 300, counted)

    def is_wrong_somehow(self, schema, node, mend, mends):
        known = {one for one, _, _ in mends}
        kind, steps = mend
        for at in range(len(steps)):
            other = (kind, steps[:at] + steps[at + 1:])
            self.assertTrue(other in known or not check_mend(schema, node, other))

    def test_wrong_mends(self):
        keep = ("keep", ("par", (("keep", ""),)))
        for value in (list(MEND), ("doc", list(MEND[1])), ("doc",), MEND + ((),), ("par", (("drop",), ("keep", ""))), ("none", ()),
                      ("doc", (("put", "head"), keep)), ("doc", (("put", "head"), keep, ("drop",), ("drop",))),
                      ("doc", (("put", "head"), keep, ("keep", ""))), ("doc", (keep, ("drop",))), ("doc", (("put", "none"), keep, ("drop",))),
                      ("doc", (("put", "head"), ("keep", ""), ("drop",))), ("doc", (("put", "head"), ["drop"], ("drop",))),
                      ("doc", (("put", "head"), ("drop", 0), ("drop",))), ("doc", (("put",), keep, ("drop",))),
                      ("doc", (("put", ("head",)), keep, ("drop",))), ("doc", (("put", "head"), ("keep", ("par", ())), ("drop",))),
                      ("doc", (("put", "head"), ("keep", ("par", (("keep", "a"),))), ("drop",))),
                      ("doc", (("put", "head"), ("keep", ("par", (("keep", ("par", ())),))), ("drop",))),
                      ("doc", (("put", "head"), ("keep", ("none", (("keep", ""),))), ("drop",))), ("doc", ((), keep, ("drop",))),
                      ("doc", (("put", "head"), ("keep", ("par", [("keep", "")])), ("drop",))), ("doc", ("drop", "drop")), (None, MEND[1])):
            self.assertIs(check_mend(PLAN, NODE, value), False, value)
        self.assertIs(check_mend(PLAN, NODE, ("doc", (("keep", ("head", (("drop",), ("put", "")))), ("drop",)))), True)
        dead = read_schema("a, a x [b c]?, b y (b), c y #")
        self.assertIs(check_mend(dead, ("x", ()), ("a", (("put", "c"),))), True)
        self.assertIs(check_mend(dead, ("x", ()), ("a", (("put", "b"),))), False)
        self.assertIs(check_mend(dead, ("x", (("y", ()),)), ("a", (("keep", ("b", ())),))), False)

    def test_any_value(self):
        for value in odd_values():
            for mend in (value, (value, ()), ("doc", value), ("doc", (value,)), ("doc", (("put", value), ("drop",), ("drop",))),
                         ("doc", (("put", "head"), ("keep", value), ("drop",))), ("doc", (("put", "head"), ("keep", ("par", value)), ("drop",)))):
                self.assertIs(check_mend(PLAN, NODE, mend), False)

    def test_the_top_and_nothing(self):
        self.assertIs(check_mend(Schema((), ()), NODE, MEND), False)
        self.assertIs(check_mend(Schema(PLAN.types, ()), NODE, MEND), False)
        one = read_schema("a, a x -")
        self.assertEqual((mend_cost(one, ("x", ()), ("a", ())), mend_edits(one, ("x", ()), ("a", ()))), (0, ()))
        self.assertEqual((mend_cost(one, ("y", ("q",)), ("a", (("drop",),))), mend_made(one, ("y", ("q",)), ("a", (("drop",),)))), (2, ("x", ())))

    def test_no_edits_cost_less(self):
        """Whatever edits lead to a document that fits, some mend costs no more."""
        chance = seeded(732)
        for _ in range(40):
            schema = random_schema(chance)
            node = chance.choice(all_nodes(3, ("x", "y")))
            mend = least_mend(schema, node)
            for edits in itertools.product(all_edits(node), repeat=1):
                after = done(node, edits[0])
                if fits(schema, after):
                    self.assertTrue(mend_cost(schema, node, mend) <= edits_cost(node, edits))

    def test_great(self):
        chain = ["%s x (%s)" % (kind, " ".join([other] * 22)) for kind, other in zip("abcde", "bcde#")]
        schema = read_schema("a, " + ", ".join(chain))
        mend = ("a", (("put", "b"),) * 22 + (("drop",),))
        self.assertIs(check_mend(schema, ("x", ("",)), mend), True)
        self.assertEqual(mend_cost(schema, ("x", ("",)), mend), 1 + 22 * (1 + 22 * (1 + 22 * (1 + 22 * 23))))
        deep = nested(("x", ("",)), 28, lambda inner: ("x", (inner,)))
        keep = nested(("a", (("keep", ""),)), 28, lambda inner: ("a", (("keep", inner),)))
        self.assertIs(check_mend(read_schema("a, a y [a #]"), deep, keep), True)
        edits = mend_edits(read_schema("a, a y [a #]"), deep, keep)
        self.assertEqual((len(edits), edits_cost(deep, edits), forest_size((all_done(deep, edits),))), (29, 29, 30))


if __name__ == "__main__":
    unittest.main()
