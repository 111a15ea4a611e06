"""Point 70: lots of things, and letters wanted and welcome."""

import unittest

from tests.helping import Case, nested, seeded
from tests.test_merging import all_edits
from tests.test_schematext import random_schema
from tests.test_tables import all_nodes
from turnsfit.edits import done
from turnsfit.fitting import fits, lot_of_thing
from turnsfit.formulas import spells
from turnsfit.lots import lots_of, wanted_of, welcome, would_fit
from turnsfit.places import at_place, node_places, place_number, places_of, replaced
from turnsfit.schemas import Schema, formula_for, kinds_named, kinds_of
from turnsfit.schematext import read_schema, schema_text

NODE = ("doc", ("hi", ("b", ())))
FORM = ("row", (("text",), ("star", ("one", "par"))))
SCHEMA = Schema((("doc", "doc", FORM), ("par", "b", ("maybe", ("text",)))), ("doc",))


def spells_over(formula, lots):
    """Whether a row with a letter of each lot is spelled: lot by lot, by trying all."""
    rows = [()]
    for lot in lots:
        rows = [row + (letter,) for row in rows for letter in lot]
    return any(spells(formula, row) for row in rows)


def plain_wanted(schema, node, place):
    """The letters wanted in a place, straight from what they are."""
    if place == ():
        return schema.tops
    outer = at_place(node, place[:-1])
    lots = [lot_of_thing(schema, thing) for thing in outer[1]]
    at = place[-1]
    found = []
    for kind in kinds_named(schema, outer[0]):
        if kind in plain_wanted(schema, node, place[:-1]):
            found.extend([letter for letter in ("",) + kinds_of(schema)
                          if spells_over(formula_for(schema, kind), lots[:at] + [(letter,)] + lots[at + 1:])])
    return tuple(sorted(set(found)))


def plain_welcome(schema, node, place, at):
    name, things = at_place(node, place)
    return plain_wanted(schema, replaced(node, place, (name, things[:at] + ("",) + things[at:])), place + (at,))


class LotsTest(Case):
    def test_example(self):
        self.assertEqual((lots_of(schema=SCHEMA, node=NODE), welcome(schema=SCHEMA, node=NODE, place=(), at=1),
                          would_fit(schema=SCHEMA, node=NODE, edit=("drop", (), 0))), ((("doc",), ("",), ("par",)), ("par",), False))

    def test_against_what_they_are(self):
        chance = seeded(701)
        nodes = all_nodes(4, ("x", "y"))
        letters = 0
        for _ in range(80):
            schema = random_schema(chance)
            for node in chance.sample(nodes, 12):
                places = places_of(node)
                self.assertEqual(lots_of(schema, node), tuple([lot_of_thing(schema, at_place(node, place)) for place in places]))
                found = wanted_of(schema=schema, node=node)
                self.assertEqual(found, tuple([plain_wanted(schema, node, place) for place in places]), (schema_text(schema), node))
                letters += sum([len(wanted) for wanted in found[1:]])
                for place in node_places(node):
                    for at in range(len(at_place(node, place)[1]) + 1):
                        self.assertEqual(welcome(schema, node, place, at), plain_welcome(schema, node, place, at))
        self.assertTrue(letters > 100, letters)

    def test_fits_just_if_wanted(self):
        """With another thing in a place, or one more, by its lot alone."""
        chance = seeded(702)
        nodes = all_nodes(3, ("x", "y"))
        for _ in range(60):
            schema = random_schema(chance)
            node, thing = chance.choice(nodes), chance.choice(nodes + ["", "x"])
            lot = lot_of_thing(schema, thing)
            for place, wanted in zip(places_of(node), wanted_of(schema, node)):
                if place != () or not isinstance(thing, str):
                    self.assertIs(fits(schema, replaced(node, place, thing)), bool(set(lot) & set(wanted)))
            for place in node_places(node):
                for at in range(len(at_place(node, place)[1]) + 1):
                    put = done(node, ("put", place, at, thing))
                    self.assertIs(fits(schema, put), bool(set(lot) & set(welcome(schema, node, place, at))))
            for edit in all_edits(node):
                after = done(node, edit)
                self.assertIs(would_fit(schema, node, edit), fits(schema, after))
                number = place_number(node, edit[1])
                new_lot = lot_of_thing(schema, at_place(after, edit[1]))
                self.assertIs(fits(schema, after), bool(set(new_lot) & set(wanted_of(schema, node)[number])))

    def test_nothing_wanted(self):
        for schema in (Schema((), ()), Schema(SCHEMA.types, ())):
            self.assertEqual((wanted_of(schema, NODE), welcome(schema, NODE, (), 0), would_fit(schema, NODE, ("name", (), "doc"))),
                             (((),) * 3, (), False))
        self.assertEqual(lots_of(Schema((), ()), NODE), ((), ("",), ()))
        self.assertEqual(wanted_of(SCHEMA, ("b", ("x",))), (("doc",), ()))
        self.assertEqual(wanted_of(SCHEMA, NODE), (("doc",), ("",), ("par",)))
        self.assertEqual([welcome(SCHEMA, NODE, (1,), 0), welcome(SCHEMA, NODE, (), 0), welcome(SCHEMA, ("doc", ()), (), 0)], [("",), (), ("",)])

    def test_great(self):
        dense = " ([" + " ".join("abcdefgh") + "]* #? [" + " ".join("abcdefgh") + "]*)"
        schema = read_schema("a, " + ", ".join([kind + " x" + dense for kind in "abcdefgh"]))
        deep = nested(("x", ()), 99, lambda inner: ("x", (inner, "")))
        self.assertEqual(wanted_of(schema, deep)[1], tuple("abcdefgh"))
        self.assertEqual(welcome(schema, deep, (0,) * 99, 0), ("",) + tuple("abcdefgh"))
        wide = ("x", (("x", ()),) * 199)
        self.assertEqual(len(wanted_of(schema, wide)), 200)


if __name__ == "__main__":
    unittest.main()
