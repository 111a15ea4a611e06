"""Points 68 and 69: edits of one document done side by side."""

import unittest

from tests.helping import Case, nested, random_node, seeded
from turnsfit.edits import all_done, done, is_edit
from turnsfit.errors import Refused
from turnsfit.merging import both_ways, do_clash, edit_behind, first_clash, merged, moved
from turnsfit.nodes import size_of
from turnsfit.places import at_place, node_places, places_of

NODE = ("doc", ("hi", ("b", ())))
THINGS = ("", "x", ("a", ()), ("b", ("y",)))


def all_edits(node):
    """All edits of a document with few unlike names, texts and things."""
    found = []
    for place in node_places(node):
        things = at_place(node, place)[1]
        found.extend([("put", place, at, thing) for at in range(len(things) + 1) for thing in THINGS[1:3]])
        found.extend([("drop", place, at) for at in range(len(things))])
        found.extend([("name", place, name) for name in "ab"])
        found.extend([("say", place, at, text) for at, thing in enumerate(things) if isinstance(thing, str) for text in ("", "s")])
    return found


def random_edits(chance, node, many):
    found = []
    for _ in range(many):
        found.append(chance.choice(all_edits(node)))
        node = done(node, found[-1])
    return tuple(found)


class MergingTest(Case):
    def test_example(self):
        self.assertEqual((edit_behind(("say", (), 0, "ho"), ("put", (), 0, "")), do_clash(("name", (), "a"), ("name", (), "b"))),
                         (("say", (), 1, "ho"), True))
        ones, others = (("name", (1,), "c"), ("drop", (), 0)), (("put", (1,), 0, "x"), ("put", (), 0, ("a", ())))
        self.assertEqual((both_ways(ones, others)[0], merged(NODE, ones, others)), (
            (("put", (0,), 0, "x"), ("put", (), 0, ("a", ()))), ("doc", (("a", ()), ("c", ("x",))))))

    def test_moved(self):
        """Each thing has a mark of its own, by which it is found again."""
        chance = seeded(681)
        for _ in range(120):
            node = random_node(chance, 3)
            named = [0]

            def told(thing):
                named[0] += 1
                if isinstance(thing, str):
                    return "t" + str(named[0])
                return ("a" + "bcdefghijk"[named[0] // 10 % 10] + "bcdefghijk"[named[0] % 10], tuple([told(one) for one in thing[1]]))
            if size_of(node) > 90:
                continue
            node = told(node)
            for edit in all_edits(node):
                if edit[0] not in ("put", "drop"):
                    for place in places_of(node):
                        self.assertEqual(moved(place, edit), place)
                    continue
                after = done(node, edit)
                where = {}
                for place in places_of(after):
                    thing = at_place(after, place)
                    where[thing if isinstance(thing, str) else thing[0]] = place
                for place in places_of(node):
                    thing = at_place(node, place)
                    self.assertEqual(moved(place=place, edit=edit), where.get(thing if isinstance(thing, str) else thing[0]))

    def test_either_way_round(self):
        """The same document, exactly if two edits do not clash."""
        chance = seeded(682)
        clashes = 0
        for _ in range(25):
            node = random_node(chance, 2)
            edits = all_edits(node)
            for one in chance.sample(edits, min(len(edits), 25)):
                for other in chance.sample(edits, min(len(edits), 25)) + [one]:
                    ways = []
                    for first, second in ((one, other), (other, one)):
                        left = edit_behind(edit=second, other=first)
                        after = done(node, first)
                        if left is not None:
                            self.assertTrue(is_edit(after, left))
                            self.assertEqual(left[0], second[0])
                            after = done(after, left)
                        ways.append(after)
                    clashes += do_clash(one=one, other=other)
                    self.assertIs(do_clash(one, other), ways[0] != ways[1], (node, one, other))
        self.assertTrue(clashes > 50)

    def test_left(self):
        """What is left, edit by edit, as the document tells it."""
        put, drop = ("put", (1,), 1, "x"), ("drop", (1,), 1)
        for edit, other, left in ((put, ("put", (1,), 0, "y"), ("put", (1,), 2, "x")), (put, ("put", (1,), 1, "y"), put),
                                  (put, ("put", (1,), 2, "y"), put), (put, put, put), (put, ("drop", (1,), 0), ("put", (1,), 0, "x")),
                                  (put, drop, put), (put, ("drop", (), 1), None), (put, ("drop", (), 0), ("put", (0,), 1, "x")),
                                  (put, ("put", (), 1, ""), ("put", (2,), 1, "x")), (drop, drop, None), (drop, put, ("drop", (1,), 2)),
                                  (drop, ("drop", (1,), 0), ("drop", (1,), 0)), (drop, ("drop", (1,), 2), drop),
                                  (("say", (1,), 1, "a"), drop, None), (drop, ("say", (1,), 1, "a"), drop),
                                  (("say", (1,), 1, "a"), ("say", (1,), 1, "a"), None),
                                  (("say", (1,), 1, "a"), ("say", (1,), 1, "b"), ("say", (1,), 1, "a")),
                                  (("name", (1,), "a"), ("name", (1,), "a"), None), (("name", (1,), "a"), ("name", (1,), "b"),
                                                                                     ("name", (1,), "a")),
                                  (("name", (1,), "a"), ("drop", (), 1), None), (("name", (), "a"), ("drop", (), 1), ("name", (), "a")),
                                  (("name", (1, 1), "a"), ("put", (1,), 0, ""), ("name", (1, 2), "a")),
                                  (("drop", (1, 1), 0), drop, None), (("put", (), 1, ""), put, ("put", (), 1, ""))):
            self.assertEqual(edit_behind(edit, other), left, (edit, other))

    def test_rows_of_edits(self):
        chance = seeded(691)
        clashed = 0
        for _ in range(500):
            node = random_node(chance, 2)
            ones, others = random_edits(chance, node, chance.randint(0, 4)), random_edits(chance, node, chance.randint(0, 4))
            clash = first_clash(ones=ones, others=others)
            self.assertEqual(clash, self.plain_clash(ones, others))
            if clash is not None:
                clashed += 1
                self.fails(Refused, "clash", both_ways, ones, others)
                self.fails(Refused, "clash", merged, node, ones, others)
                continue
            left, left_ones = both_ways(ones=ones, others=list(others))
            self.assertIsInstance(left, tuple)
            self.assertEqual(all_done(node, ones + left), all_done(node, others + left_ones))
            self.assertEqual(merged(node=node, ones=list(ones), others=others), all_done(node, ones + left))
        self.assertTrue(50 < clashed < 450)

    def plain_clash(self, ones, others):
        left = list(others)
        for number, one in enumerate(ones):
            after = []
            for at, other in enumerate(left):
                if one is not None and other is not None:
                    if do_clash(one, other):
                        return (number, at)
                    one, other = edit_behind(one, other), edit_behind(other, one)
                after.append(other)
            left = after
        return None

    def test_rows_of_no_edits(self):
        ones = (("drop", (), 0),)
        self.assertEqual((first_clash((), ()), both_ways((), ()), merged(NODE, (), ())), (None, ((), ()), NODE))
        self.assertEqual((both_ways(ones, ()), both_ways((), ones), merged(NODE, (), ones)), (((), ones), (ones, ()), ("doc", (("b", ()),))))
        self.assertEqual((both_ways(ones, ones), merged(NODE, ones, ones)), (((), ()), ("doc", (("b", ()),))))

    def test_edits_of_one_place_in_both_orders(self):
        names = (("name", (), "a"), ("name", (), "c"))
        self.assertEqual(first_clash(names, (("name", (), "c"),)), (0, 0))
        self.assertIsNone(first_clash(names[:1], names[:1]))
        self.assertEqual(first_clash((("drop", (), 1), ("name", (), "a")), (("put", (1,), 0, ""), ("name", (), "b"))), (1, 1))
        puts = (("put", (), 0, "x"), ("put", (), 0, "y"))
        self.assertEqual((first_clash(puts[:1], puts[1:]), first_clash(puts[1:], puts[:1])), ((0, 0), (0, 0)))
        self.assertEqual(merged(NODE, puts[:1], puts[:1]), ("doc", ("x", "x", "hi", ("b", ()))))

    def test_great(self):
        deep = nested(("a", ("",)), 29, lambda inner: ("a", (inner, "", "")))
        chance = seeded(692)
        for _ in range(5):
            ones, others = random_edits(chance, deep, 16), random_edits(chance, deep, 16)
            if first_clash(ones, others) is None:
                left, left_ones = both_ways(ones, others)
                self.assertEqual(all_done(deep, ones + left), all_done(deep, others + left_ones))


if __name__ == "__main__":
    unittest.main()
