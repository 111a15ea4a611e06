"""Points 28 and 32: papers of states, and frames that part nodes."""

import unittest

from tests.helping import Case, nested, odd_values, seeded
from tests.test_leasttables import random_table
from tests.test_tables import LISTS, PAIRS, all_forests, all_nodes
from turnsfit.frames import framed, is_frame
from turnsfit.leasttables import least_states, least_table, state_nodes
from turnsfit.statepapers import check_states, parting_frame, state_paper, state_through
from turnsfit.tables import Table, state_of, takes

FIRST = least_table(LISTS)


def random_frame(chance, names, deep):
    forests = all_forests(0, names) + all_forests(1, names) + all_forests(2, names)
    return tuple([(chance.choice(names), chance.choice(forests), chance.choice(forests)) for _ in range(deep)])


class StatePapersTest(Case):
    def test_example(self):
        self.assertEqual((parting_frame(FIRST, ("item", ()), ("item", ("x",))), parting_frame(FIRST, ("item", ()), ("list", ())) is None),
                         (None, False))
        self.assertTrue(check_states(FIRST, state_paper(FIRST)))

    def test_state_through(self):
        chance = seeded(281)
        nodes = all_nodes(4, ("x", "y"))
        for _ in range(200):
            table = random_table(chance, ("x", "y"), chance.randint(1, 4))
            node, frame = chance.choice(nodes), random_frame(chance, ("x", "y", "z")[:chance.randint(2, 3)], chance.randint(0, 3))
            self.assertEqual(state_through(table=table, state=state_of(table, node), frame=frame), state_of(table, framed(frame, node)))
        for frame in ((("z", (), ()),), (("x", (("z", ()),), ()),), (("x", (), ("", ("x", (("z", ()),)))),),
                      (("z", (), ()), ("x", (), ())), (("x", (), ()), ("z", (), ()))):
            self.assertIsNone(state_through(Table(("x",), (0,), (0,), ((0,),), (0,)), 0, frame))
        self.assertEqual(state_through(PAIRS, 1, ()), 1)

    def test_papers_of_least_tables_alone(self):
        """Some paper exactly if no table that takes the same has fewer states, and each state is that of a node."""
        chance = seeded(282)
        told = [0, 0]
        for _ in range(300):
            table = random_table(chance, chance.choice((("x",), ("x", "y"))), chance.randint(1, 4))
            is_least = len(least_states(table).texts) == len(table.texts)
            paper = state_paper(table=table)
            self.assertIs(paper is not None, is_least)
            told[is_least] += 1
            if is_least:
                self.assertIs(check_states(table=table, value=paper), True)
                self.assertEqual(paper[0], state_nodes(table))
            else:
                for other in (state_paper(least_states(table)), ((), ())):
                    self.assertIs(check_states(table, other), False)
        self.assertTrue(min(told) > 50, told)

    def test_papers_changed(self):
        chance = seeded(283)
        for _ in range(60):
            table = least_states(random_table(chance, ("x", "y"), 4))
            nodes, parts = state_paper(table)
            self.assertTrue(check_states(table, (nodes, parts[::-1] + parts[:1])))
            turned = tuple([(other, one, forest, frame) for one, other, forest, frame in parts])
            self.assertTrue(check_states(table, (nodes, turned)))
            if len(nodes) > 1:
                one, other = chance.sample(range(len(nodes)), 2)
                swapped = list(nodes)
                swapped[one], swapped[other] = nodes[other], nodes[one]
                self.assertFalse(check_states(table, (tuple(swapped), parts)))
                self.assertFalse(check_states(table, (nodes, parts[1:])))
                self.assertFalse(check_states(table, (nodes, list(parts))))
                self.assertFalse(check_states(table, (list(nodes), parts)))
                self.assertFalse(check_states(table, (nodes[:-1], parts)))
                self.assertFalse(check_states(table, (nodes, parts + ((0, 0, (), ()),))))
                self.assertFalse(check_states(table, (nodes, parts + ((0, len(nodes), (), ()),))))
                self.assertFalse(check_states(table, (nodes, parts + (parts[0][:3] + ((("z", (), ()),),),))))
                self.assertFalse(check_states(table, (nodes, ((False,) + parts[0][1:],) + parts[1:])))

    def test_any_value(self):
        nodes, parts = state_paper(FIRST)
        for value in odd_values():
            for paper in (value, (value, parts), (nodes, value), (nodes, (value,) + parts), (nodes[:-1] + (value,), parts),
                          (nodes, parts + ((value, 0, (), ()),)), (nodes, parts + ((0, value, (), ()),)),
                          (nodes, parts + ((0, 1, value, ()),)), (nodes, parts + ((0, 1, (), value),))):
                self.assertIs(check_states(FIRST, paper), False)
        self.assertTrue(check_states(FIRST, (nodes, parts + ((0, 4, (), ()),))))

    def test_tables_of_no_states(self):
        bare = Table((), (), (), (), ())
        self.assertEqual((state_paper(bare), check_states(bare, ((), ()))), (((), ()), True))
        self.assertIsNone(state_paper(Table((), (), (0,), ((0,),), (0,))))
        self.assertIsNone(state_paper(Table(("a",), (0,), (0, 1), ((0, 0), (0, 0)), (1,))))
        none = Table(("a",), (0,), (0,), ((0,),), ())
        self.assertEqual(state_paper(none), ((("a", ()),), ()))
        self.assertTrue(check_states(none, ((("a", ("x", ("a", ()))),), ())))

    def test_parting_frames(self):
        """None exactly if both are children alike in the least table, and both or neither are ends."""
        chance = seeded(321)
        nodes = all_nodes(4, ("x", "y"))
        told = [0, 0]
        for _ in range(300):
            table = random_table(chance, ("x", "y"), chance.randint(1, 5))
            one, other = chance.choice(nodes), chance.choice(nodes)
            least = least_states(table)
            states = [state_of(least, node) for node in (one, other)]
            alike = (all(step[states[0]] == step[states[1]] for step in least.steps)
                     and (states[0] in least.ends) == (states[1] in least.ends))
            frame = parting_frame(table=table, node=one, other=other)
            self.assertIs(frame is None, alike)
            told[alike] += 1
            if frame is None:
                for _ in range(20):
                    around = random_frame(chance, ("x", "y"), chance.randint(0, 3))
                    self.assertEqual(takes(table, framed(around, one)), takes(table, framed(around, other)))
            else:
                self.assertTrue(is_frame(frame))
                self.assertNotEqual(takes(table, framed(frame, one)), takes(table, framed(frame, other)))
        self.assertTrue(min(told) > 50, told)

    def test_great(self):
        many = 8
        steps = tuple([tuple([min(one + 1, many - 1) if one == other else 0 for other in range(many)]) for one in range(many)])
        table = Table(("a",), (0,), (0,) * many, steps, (many - 1,))
        self.assertTrue(check_states(table, state_paper(table)))
        deep = nested(("a", ()), 60, lambda inner: ("a", (inner,)))
        self.assertIsNone(parting_frame(table, deep, ("a", ())))
        node, frame = state_nodes(table)[3], (("a", (deep,), (deep,)),) * 20
        self.assertEqual(state_through(table, 3, frame), state_of(table, framed(frame, node)))


if __name__ == "__main__":
    unittest.main()
