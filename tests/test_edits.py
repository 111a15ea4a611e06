"""Point 67: edits."""

import unittest

from tests.helping import GREAT, Case, nested, odd_values, random_node, seeded
from turnsfit.edits import all_done, done, edits_between, is_edit, need_edit, undoing, undoing_all
from turnsfit.errors import InvalidEdit
from turnsfit.places import at_place, node_places

NODE = ("doc", ("hi", ("b", ())))


class EditsTest(Case):
    def test_example(self):
        self.assertEqual((done(NODE, ("put", (1,), 0, "yes")), undoing(NODE, ("drop", (), 0))),
                         (("doc", ("hi", ("b", ("yes",)))), ("put", (), 0, "hi")))

    def test_each_word(self):
        for edit, made, back in (
                (("put", (), 0, ""), ("doc", ("", "hi", ("b", ()))), ("drop", (), 0)),
                (("put", (), 2, ("c", ("x",))), ("doc", ("hi", ("b", ()), ("c", ("x",)))), ("drop", (), 2)),
                (("drop", (), 1), ("doc", ("hi",)), ("put", (), 1, ("b", ()))),
                (("name", (1,), "new"), ("doc", ("hi", ("new", ()))), ("name", (1,), "b")),
                (("name", (), "doc"), NODE, ("name", (), "doc")),
                (("say", (), 0, "ho"), ("doc", ("ho", ("b", ()))), ("say", (), 0, "hi"))):
            self.assertIsNone(need_edit(node=NODE, value=edit))
            self.assertIs(is_edit(node=NODE, value=edit), True)
            self.assertEqual(done(node=NODE, edit=edit), made)
            self.assertEqual(undoing(node=NODE, edit=edit), back)
            self.assertEqual(done(made, back), NODE)

    def test_wrong_edits(self):
        wrong = ((None, 0), ((), 0), (["drop", (), 0], 0), (("drop",), 0), (("drop", ()), 0), (("drop", (), 0, ""), 0), ("drop", 0),
                 (("put", (), 0), 0), (("say", (), 0), 0), (("name", ()), 0), (("Put", (), 0, ""), 0), ((1, (), 0), 0),
                 (((), (), 0), 0), (("move", (), 0), 0), (("put", (0,), 0, ""), 1), (("put", (2,), 9, 1), 1), (("drop", [], 0), 1),
                 (("drop", (True,), 0), 1), (("name", (1, 0), "x"), 1), (("say", None, 0, 1), 1), (("put", (), 3, 1), 2),
                 (("put", (), -1, ""), 2), (("put", (), True, ""), 2), (("put", (), None, None), 2), (("drop", (), 2), 2),
                 (("drop", (1,), 0), 2), (("drop", (), GREAT), 2), (("drop", (), "0"), 2), (("name", (), ""), 2), (("name", (), 1), 2),
                 (("name", (), "A"), 2), (("say", (), 1, 5), 2), (("say", (), 2, ""), 2), (("say", (), False, ""), 2),
                 (("put", (), 0, None), 3), (("put", (), 0, "A"), 3), (("put", (), 2, ("a", (1,))), 3), (("put", (), 0, ["a", ()]), 3),
                 (("say", (), 0, "a" * 17), 3), (("say", (), 0, ("a", ())), 3), (("say", (), 0, 1), 3))
        for value, at in wrong:
            for function in (need_edit, done, undoing):
                self.fails(InvalidEdit, at, function, NODE, value)
            self.assertIs(is_edit(NODE, value), False)
            self.fails(InvalidEdit, (1, at), all_done, NODE, (("name", (), "new"), value))
            self.fails(InvalidEdit, (0, at), undoing_all, NODE, [value, None])

    def test_any_value(self):
        for value in odd_values():
            for edit in (value, ("put", value, value, value), ("put", (), value, value), ("put", (), 0, value),
                         ("drop", value, 0), ("drop", (), value), ("name", value, "a"), ("name", (), value),
                         ("say", value, 0, ""), ("say", (), value, ""), ("say", (), 0, value), (value, (), 0)):
                for function in (need_edit, done, undoing, is_edit):
                    self.told_for_any_value(lambda _, function=function, edit=edit: function(NODE, edit), InvalidEdit)
                self.told_for_any_value(lambda _, edit=edit: all_done(NODE, [edit, edit]), InvalidEdit)
                break
            self.told_for_any_value(lambda _, value=value: undoing_all(NODE, (value,)), InvalidEdit)

    def test_rows(self):
        edits = [("put", (1,), 0, "x"), ("drop", (), 0), ("name", (0,), "c"), ("say", (0,), 0, "y")]
        self.assertEqual(all_done(node=NODE, edits=edits), ("doc", (("c", ("y",)),)))
        self.assertEqual(undoing_all(node=NODE, edits=tuple(edits)), (
            ("say", (0,), 0, "x"), ("name", (0,), "b"), ("put", (), 0, "hi"), ("drop", (1,), 0)))
        self.assertEqual([all_done(NODE, ()), undoing_all(NODE, [])], [NODE, ()])
        self.fails(InvalidEdit, (2, 2), all_done, NODE, edits[:2] + [("say", (), 0, "")])
        self.fails(InvalidEdit, (3, 1), undoing_all, NODE, edits[:3] + [("drop", (1,), 0)])

    def test_there_and_back(self):
        chance = seeded(131)
        for _ in range(100):
            node = random_node(chance, 3)
            here = node
            edits = []
            for _ in range(8):
                place = chance.choice(node_places(here))
                many = len(at_place(here, place)[1])
                edit = chance.choice((("put", place, chance.randint(0, many), chance.choice(("u", random_node(chance, 2)))),
                                      ("drop", place, chance.randint(0, many)), ("name", place, chance.choice("abc")),
                                      ("say", place, chance.randint(0, many), "z")))
                if is_edit(here, edit):
                    behind = done(here, edit)
                    self.assertEqual(done(behind, undoing(here, edit)), here)
                    edits.append(edit)
                    here = behind
            self.assertEqual([all_done(node, edits), all_done(here, undoing_all(node, edits))], [here, node])
            other = random_node(chance, 3)
            self.assertEqual(all_done(node, edits_between(one=node, other=other)), other)
            self.assertEqual(all_done(here, edits_between(here, node)), node)

    def test_between(self):
        for one, other in ((NODE, NODE), (NODE, ("c", ())), (("c", ()), NODE), (NODE, ("doc", ("hi",))), (NODE, ("doc", ("hi",) * 5)),
                           (("a", ("", "", "")), ("a", ("", ""))), (("a", ("1", "2", "3")), ("a", ("1", "x", "3")))):
            edits = edits_between(one, other)
            self.assertIsInstance(edits, tuple)
            self.assertEqual(all_done(one, edits), other)

    def test_great(self):
        deep = nested(("a", ()), 29, lambda inner: ("a", ("", inner)))
        edit = ("put", (1,) * 29, 0, ("b", ("x",) * 40))
        self.assertEqual(all_done(deep, (edit,) + undoing_all(deep, [edit])), deep)
        wide = ("a", ("x",) * 99)
        self.assertEqual(all_done(wide, edits_between(wide, deep)), deep)


if __name__ == "__main__":
    unittest.main()
