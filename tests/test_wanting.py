"""Point 23: the letters wanted in the holes of frames."""

import unittest

from tests.helping import Case, nested, seeded
from tests.test_joined import lively_schema
from tests.test_schematext import random_schema
from tests.test_tables import all_forests, all_nodes
from turnsfit.fitting import fits, lot_of_thing
from turnsfit.formulas import letters_of
from turnsfit.frames import frame_at, framed
from turnsfit.places import places_of
from turnsfit.schemas import Schema
from turnsfit.schematext import read_schema
from turnsfit.wanting import letter_apart, wanted_letters

SCHEMA = read_schema("doc, doc doc (head [note par]*), head head #, note par -, par par #*")
NAMES = ("x", "y")
NODES = all_nodes(4, NAMES)
FORESTS = [forest for size in range(3) for forest in all_forests(size, NAMES)]


def random_frame(chance, most=3):
    return tuple([(chance.choice(NAMES), chance.choice(FORESTS), chance.choice(FORESTS)) for _ in range(chance.randint(0, most))])


def fitting_frame(chance):
    """A schema, and a frame: often one of a document that fits."""
    schema = lively_schema(chance)
    fitting = [node for node in NODES if fits(schema, node)]
    if fitting and chance.random() < .7:
        node = chance.choice(fitting)
        return schema, frame_at(node, chance.choice(places_of(node)))
    return schema, random_frame(chance)


def with_type(schema, letter):
    """The schema with one more name, of whose nodes each has the letter alone."""
    formula = ("one", "zz")
    either = ("either", (formula, ("one", letter))) if letter else ("either", (formula, ("text",)))

    def replaced(part):
        if part == (("one", letter) if letter else ("text",)):
            return either
        if part[0] in ("row", "either"):
            return (part[0], tuple([replaced(inner) for inner in part[1]]))
        return (part[0], replaced(part[1])) if part[0] in ("star", "some", "maybe") else part
    types = tuple([(kind, name, replaced(formula)) for kind, name, formula in schema.types]) + (("zz", "zz", ("empty",)),)
    return Schema(types, schema.tops + (("zz",) if letter in schema.tops else ()))


class WantingTest(Case):
    def test_example(self):
        self.assertEqual(wanted_letters(schema=SCHEMA, frame=(("doc", (("head", ("a",)),), ()),)), ("note", "par"))

    def test_exactly(self):
        """The thing in the hole fits if and only if its lot has a wanted letter."""
        chance = seeded(231)
        told = [0, 0]
        for _ in range(300):
            schema, frame = fitting_frame(chance)
            wanted = wanted_letters(schema, frame)
            self.assertEqual(wanted, tuple(sorted(set(wanted))))
            for thing in chance.sample(NODES, 12) + ([""] if frame else []):
                lot = lot_of_thing(schema, thing)
                told[fits(schema, framed(frame, thing))] += 1
                self.assertIs(fits(schema, framed(frame, thing)), bool(set(lot) & set(wanted)))
        self.assertTrue(min(told) > 100, told)

    def test_letters_one_by_one(self):
        """A letter is wanted exactly if a thing that had this letter alone would fit: of dead types, too."""
        chance = seeded(232)
        for _ in range(150):
            schema, frame = fitting_frame(chance)
            letters = {""} | {kind for kind, _, _ in schema.types} | {letter for _, _, part in schema.types for letter in letters_of(part)}
            found = tuple(sorted([letter for letter in letters if fits(with_type(schema, letter), framed(frame, ("zz", ())))]))
            self.assertEqual(wanted_letters(schema, frame), found)

    def test_edges(self):
        self.assertEqual((wanted_letters(SCHEMA, ()), wanted_letters(Schema((), ()), ()), wanted_letters(Schema(SCHEMA.types, ()), ())),
                         (("doc",), (), ()))
        for frame in ((("none", (), ()),), (("doc", (), ()), ("none", (), ())), (("none", (), ()), ("doc", (), ()))):
            self.assertEqual(wanted_letters(SCHEMA, frame), ())
            self.assertEqual(wanted_letters(Schema((), ()), frame), ())
        dead = read_schema("a, a x [b dead]*, b y -, dead y (dead)")
        self.assertEqual((wanted_letters(dead, (("x", (), ()),)), wanted_letters(dead, (("x", (), ()), ("y", (), ())))), (("b", "dead"), ("dead",)))
        self.assertEqual(wanted_letters(SCHEMA, (("doc", (("head", ("a",)), "x"), ()),)), ())
        self.assertEqual(wanted_letters(read_schema("b, a x #, b x (a #)"), (("x", (), ("a",)), ("x", (), ()))), ("",))

    def test_letters_apart(self):
        chance = seeded(233)
        told = [0, 0]
        for _ in range(300):
            schema, one, other = random_schema(chance), chance.choice(NODES + ["", "a"] * 20), chance.choice(NODES + [""] * 20)
            apart = sorted(set(lot_of_thing(schema, one)) ^ set(lot_of_thing(schema, other)))
            self.assertEqual(letter_apart(schema=schema, thing=one, other=other), apart[0] if apart else None)
            told[not apart] += 1
        self.assertTrue(min(told) > 30, told)
        self.assertEqual((letter_apart(SCHEMA, "a", ""), letter_apart(SCHEMA, "a", ("par", ())), letter_apart(SCHEMA, ("par", ()), ("par", ("x",)))),
                         (None, "", "note"))

    def test_great(self):
        deep = nested(("x", ()), 25, lambda inner: ("x", (inner, "a")))
        schema = read_schema("a b, a x ([a b] #?)*, b x (a b? #), c y #, d y (c a)")
        frame = tuple([("x", (), ("a",)) for _ in range(20)])
        for thing in (deep, "", ("x", ())):
            self.assertIs(fits(schema, framed(frame, thing)), bool(set(lot_of_thing(schema, thing)) & set(wanted_letters(schema, frame))))


if __name__ == "__main__":
    unittest.main()
