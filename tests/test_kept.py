"""Point 71: kept documents."""

import unittest

from tests.helping import Case, odd_values, random_node, seeded
from tests.test_lots import NODE, SCHEMA
from tests.test_merging import all_edits
from tests.test_schematext import random_schema
from turnsfit.edits import done, is_edit
from turnsfit.errors import InvalidEdit
from turnsfit.fitting import fits, types_of
from turnsfit.kept import Kept
from turnsfit.lots import lots_of, wanted_of, would_fit
from turnsfit.nodes import all_things
from turnsfit.places import at_place, node_places
from turnsfit.schematext import read_schema


def told(kept):
    """All that a kept document tells but its edits."""
    return (kept.node_now(), kept.lots_now(), kept.wanted_now(), kept.fits(), kept.bars())


def plain_bars(schema, node):
    found = []
    for place in node_places(node):
        inner = at_place(node, place)
        if not types_of(schema, inner) and all(isinstance(thing, str) or types_of(schema, thing) for thing in all_things(inner[1])):
            found.append(place)
    if types_of(schema, node) and not fits(schema, node):
        found.append(())
    return tuple(sorted(found))


def plain_judged(schema, node, edit):
    """How many nodes are judged, from what they are."""
    if edit[0] == "say":
        return 0
    many = len([thing for thing in all_things((edit[3],)) if not isinstance(thing, str)]) if edit[0] == "put" else 0
    after = done(node, edit)
    place = edit[1]
    while True:
        many += 1
        if place == () or types_of(schema, at_place(node, place)) == types_of(schema, at_place(after, place)):
            return many
        place = place[:-1]


class KeptTest(Case):
    def test_example(self):
        kept = Kept(schema=SCHEMA, node=NODE)
        self.assertEqual((kept.do(edit=("put", (1,), 0, "x")), kept.do(("put", (1,), 0, ("b", ()))), kept.bars()), (1, 3, ((1,),)))
        self.assertEqual((kept.undo(), kept.fits(), kept.can(edit=("drop", (), 1))), (True, True, True))
        self.assertIs(kept.schema, SCHEMA)
        self.assertEqual([name for name in vars(kept) if not name.startswith("_")], ["schema"])

    def test_beside_a_new_one(self):
        """Behind each edit, undo and redo all is as for a new one; the edits are those of a plain list."""
        chance = seeded(711)
        undone_all = redone = 0
        for _ in range(60):
            schema, node = random_schema(chance), random_node(chance, 3)
            kept = Kept(schema, node)
            nodes, edits, later = [node], [], []
            for _ in range(14):
                word = chance.random()
                if word < .25:
                    self.assertIs(kept.undo(), bool(edits))
                    if edits:
                        later.append((edits.pop(), nodes.pop()))
                    else:
                        undone_all += 1
                elif word < .45:
                    self.assertIs(kept.redo(), bool(later))
                    if later:
                        edit, after = later.pop()
                        edits.append(edit)
                        nodes.append(after)
                        redone += 1
                else:
                    edit = chance.choice(all_edits(nodes[-1]))
                    self.assertEqual(kept.do(edit), plain_judged(schema, nodes[-1], edit))
                    nodes.append(done(nodes[-1], edit))
                    edits.append(edit)
                    later = []
                node = nodes[-1]
                self.assertEqual(kept.node_now(), node)
                self.assertEqual(kept.edits_now(), tuple(edits))
                self.assertEqual(told(kept), told(Kept(schema, node)))
                self.assertEqual(told(kept)[1:4], (lots_of(schema, node), wanted_of(schema, node), fits(schema, node)))
                self.assertEqual(kept.bars(), plain_bars(schema, node))
                self.assertIs(kept.fits(), kept.bars() == ())
                for edit in chance.sample(all_edits(node), 3):
                    self.assertIs(kept.can(edit), would_fit(schema, node, edit))
                self.assertEqual(kept.node_now(), node)
        self.assertTrue(undone_all > 10 and redone > 10)

    def test_undo_and_redo(self):
        kept = Kept(SCHEMA, NODE)
        self.assertEqual((kept.undo(), kept.redo(), kept.edits_now()), (False, False, ()))
        one, other = ("drop", (), 0), ("name", (), "b")
        kept.do(one)
        kept.do(other)
        self.assertEqual((kept.undo(), kept.undo(), kept.undo(), kept.node_now(), kept.edits_now()), (True, True, False, NODE, ()))
        self.assertEqual((kept.redo(), kept.edits_now(), kept.redo(), kept.redo(), kept.edits_now()), (True, (one,), True, False, (one, other)))
        kept.undo()
        kept.do(("name", (), "c"))
        self.assertEqual((kept.redo(), kept.edits_now()[-1]), (False, ("name", (), "c")))
        kept.undo()
        self.assertEqual((kept.can(("name", (), "q")), kept.redo()), (False, True))

    def test_twins_go_on_alone(self):
        kept = Kept(SCHEMA, NODE)
        kept.do(("put", (1,), 0, "x"))
        kept.do(("name", (1,), "c"))
        kept.undo()
        other = kept.twin()
        self.assertIsInstance(other, Kept)
        self.assertIs(other.schema, SCHEMA)
        self.assertEqual((told(other), other.edits_now()), (told(kept), kept.edits_now()))
        before = told(kept)
        self.assertEqual((other.redo(), other.do(("drop", (), 0)), other.redo()), (True, 1, False))
        self.assertEqual((told(kept), kept.edits_now()), (before, (("put", (1,), 0, "x"),)))
        self.assertEqual((kept.redo(), kept.redo(), len(other.edits_now())), (True, False, 3))
        self.assertEqual((other.undo(), other.undo(), other.undo(), other.undo(), other.node_now()), (True, True, True, False, NODE))
        self.assertEqual(kept.node_now(), ("doc", ("hi", ("c", ("x",)))))

    def test_wrong_edits(self):
        kept = Kept(SCHEMA, NODE)
        kept.do(("put", (1,), 0, "x"))
        kept.undo()
        for edit, at in ((("drop",), 0), ([], 0), (None, 0), (("drop", (2,), 0), 1), (("drop", (0,), 0), 1), (("drop", (), 2), 2),
                         (("put", (), 3, ""), 2), (("say", (), 1, "x"), 2), (("name", (), "A"), 2), (("put", (), 0, "A"), 3),
                         (("say", (), 0, 1), 3), (("put", (), True, ""), 2)):
            before = (told(kept), kept.edits_now())
            for call in (kept.do, kept.can):
                self.fails(InvalidEdit, at, call, edit)
            self.assertEqual((told(kept), kept.edits_now()), before)
        self.assertIs(kept.redo(), True)

    def test_any_value(self):
        kept = Kept(SCHEMA, NODE)
        before = told(kept)
        for value in odd_values():
            for edit in (value, ("put", value, 0, ""), ("put", (), value, ""), ("put", (), 0, value), ("say", (), 0, value)):
                if not is_edit(NODE, edit):
                    with self.assertRaises(InvalidEdit):
                        kept.do(edit)
                    with self.assertRaises(InvalidEdit):
                        kept.can(edit)
                else:
                    self.assertIn(kept.can(edit), (True, False))
                self.assertEqual(kept.edits_now(), ())
        self.assertEqual(told(kept), before)

    def test_great(self):
        dense = " ([" + " ".join("abcdefgh") + "]* #? [" + " ".join("abcdefgh") + "]*)"
        schema = read_schema("a, " + ", ".join([kind + " x" + dense for kind in "abcdefgh"]))
        node = ("x", (("x", (("x", ()),) * 9),) * 9)
        kept = Kept(schema, node)
        chance = seeded(712)
        for _ in range(60):
            kept.do(chance.choice(all_edits(kept.node_now())))
        self.assertEqual(told(kept), told(Kept(schema, kept.node_now())))
        while kept.undo():
            pass
        self.assertEqual(kept.node_now(), node)
        with self.assertRaises(TypeError):
            iter(kept)
        with self.assertRaises(TypeError):
            len(kept)


if __name__ == "__main__":
    unittest.main()
