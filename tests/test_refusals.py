"""Point 22: refusals and bars."""

import itertools
import unittest

from tests.helping import Case, nested, odd_values, seeded
from tests.test_schematext import random_schema
from tests.test_tables import all_nodes
from turnsfit.fitting import fits, types_of
from turnsfit.formulas import spells
from turnsfit.places import at_place, places_of
from turnsfit.refusals import bar, check_refusal, refusal
from turnsfit.schemas import Schema, kinds_of, node_names
from turnsfit.schematext import read_schema, schema_text

SCHEMA = read_schema("doc, doc doc (head [note par]*), head head #, note par -, par par #*")


def is_refusal(schema, node, value, is_top=True):
    """Straight from the four conditions."""
    lot, parts = value
    lots = [("",) if isinstance(thing, str) else part[0] for thing, part in zip(node[1], parts)]
    for kind, name, formula in schema.types:
        if name == node[0] and kind not in lot and any(spells(formula, row) for row in itertools.product(*lots)):
            return False
    if is_top and any(kind in schema.tops for kind in lot):
        return False
    return all(isinstance(thing, str) or is_refusal(schema, thing, part, False) for thing, part in zip(node[1], parts))


def random_lots(chance, schema, thing):
    if isinstance(thing, str):
        return ""
    lot = tuple([kind for kind in kinds_of(schema) if chance.random() < .5])
    return (lot, tuple([random_lots(chance, schema, inner) for inner in thing[1]]))


def own_types(schema, thing):
    if isinstance(thing, str):
        return ""
    return (types_of(schema, thing), tuple([own_types(schema, inner) for inner in thing[1]]))


def direct_bar(schema, node):
    if fits(schema, node):
        return None
    for place in places_of(node):
        thing = at_place(node, place)
        if isinstance(thing, str) or types_of(schema, thing):
            continue
        inner = [at_place(thing, below) for below in places_of(thing)[1:]]
        if all(isinstance(one, str) or types_of(schema, one) for one in inner):
            return (place, "row" if thing[0] in node_names(schema) else "name")
    return ((), "top")


class RefusalsTest(Case):
    def test_example(self):
        node = ("doc", (("par", ()),))
        self.assertEqual((refusal(SCHEMA, node), bar(SCHEMA, node)), (((), ((("note", "par"), ()),)), ((), "row")))
        self.assertEqual(bar(schema=SCHEMA, node=("par", ())), ((), "top"))

    def test_either_a_typing_or_a_refusal(self):
        chance = seeded(221)
        nodes = all_nodes(4, ("x", "y", "z"))
        counts = {True: 0, False: 0}
        for _ in range(120):
            schema = random_schema(chance)
            for node in chance.sample(nodes, 20):
                found = refusal(schema=schema, node=node)
                fit = fits(schema, node)
                self.assertIs(found is None, fit)
                self.assertIs(check_refusal(schema=schema, node=node, value=own_types(schema, node)), not fit)
                self.assertEqual(bar(schema, node), direct_bar(schema, node))
                if not fit:
                    self.assertEqual(found, own_types(schema, node))
                for _ in range(6):
                    value = random_lots(chance, schema, node)
                    right = is_refusal(schema, node, value)
                    counts[right] += 1
                    self.assertIs(check_refusal(schema, node, value), right, (schema_text(schema), node, value))
                    self.assertFalse(fit and right)
                    if right:
                        self.has_all_types(schema, node, value)
        self.assertTrue(min(counts.values()) > 100, counts)

    def has_all_types(self, schema, node, value):
        self.assertTrue(set(types_of(schema, node)) <= set(value[0]))
        for thing, part in zip(node[1], value[1]):
            if not isinstance(thing, str):
                self.has_all_types(schema, thing, part)

    def test_wrong_values(self):
        node = ("doc", ("s", ("par", ()), ("head", ())))
        right = refusal(SCHEMA, node)
        self.assertEqual(right, ((), ("", (("note", "par"), ()), ((), ()))))
        self.assertIs(check_refusal(SCHEMA, node, right), True)
        par, head = right[1][1:]
        for value in (list(right), right + ((),), ((),), ([], right[1]), ((), list(right[1])), ((), right[1][:2]), ((), right[1] + ("",)),
                      ((), ("s", par, head)), ((), (None, par, head)), ((), (((), ()), par, head)), ((), ("", "", head)),
                      ((), ("", (("note",), ()), head)), ((), ("", (("par", "note"), ()), head)), ((), ("", (("note", "par", "z"), ()), head)),
                      ((), ("", (("note", "par"), ("",)), head)), ((), ("", par, (None, ()))), ((), ("", par, ((), None))), ("", right[1]),
                      (("doc",), right[1]), (("none",), right[1]), ((1,), right[1]), ((), ("", (("note", "par"),), head)), (), "", None):
            self.assertIs(check_refusal(SCHEMA, node, value), False, value)
        self.assertIs(check_refusal(SCHEMA, node, (("head", "par"), right[1])), True)
        self.assertIs(check_refusal(SCHEMA, node, ((), ("", (("doc", "note", "par"), ()), (("head",), ())))), True)

    def test_any_value(self):
        node = ("doc", ("s", ("par", ())))
        for value in odd_values():
            for told in (value, (value, ("", (("note", "par"), ()))), ((), value), ((), (value, (("note", "par"), ()))),
                         ((), ("", value)), ((), ("", (value, ()))), ((), ("", (("note", value), ())))):
                right = told == ((), ("", (("note", "par"), ())))
                self.assertIs(check_refusal(SCHEMA, node, told), right)

    def test_bars(self):
        for text, bars in (("doc", ((), "row")), ("z", ((), "name"))):
            self.assertEqual(bar(SCHEMA, (text, ())), bars)
        node = ("z", (("doc", (("q", ()),)), ("head", ())))
        self.assertEqual(bar(SCHEMA, node), ((0, 0), "name"))
        self.assertEqual(bar(SCHEMA, ("z", (("head", ("x",)), ("head", ())))), ((1,), "row"))
        for schema in (Schema((), ()), Schema(SCHEMA.types, ())):
            self.assertEqual(bar(schema, ("par", ())), ((), "top" if schema.types else "name"))
            self.assertIs(check_refusal(schema, ("par", ()), refusal(schema, ("par", ()))), True)
        self.assertIsNone(bar(SCHEMA, ("doc", (("head", ("x",)),))))

    def test_what_bars_bars_wherever_it_stands(self):
        chance = seeded(222)
        for _ in range(80):
            schema = random_schema(chance)
            node = chance.choice(all_nodes(4, ("x", "y", "z")))
            found = bar(schema, node)
            if found is not None and found[1] != "top":
                for ahead, name in itertools.product(((), ("",), (("x", ()),)), "xyz"):
                    self.assertFalse(fits(schema, (name, ahead + (at_place(node, found[0]),))))

    def test_great(self):
        deep = nested(("x", ()), 99, lambda inner: ("x", (inner, "")))
        dense = " ([" + " ".join("abcdefgh") + "]* #? [" + " ".join("abcdefgh") + "]*)"
        schema = read_schema("a, " + ", ".join([kind + " x" + dense for kind in "abcdefgh"]))
        self.assertIsNone(bar(schema, deep))
        schema = Schema(schema.types, ())
        found = refusal(schema, deep)
        self.assertIs(check_refusal(schema, deep, found), True)
        self.assertEqual(bar(schema, deep), ((), "top"))


if __name__ == "__main__":
    unittest.main()
