"""Point 60: turnings one behind another."""

import unittest

from tests.helping import Case, seeded
from tests.test_bearings import BARE, ROWS
from tests.test_joined import lively_schema
from tests.test_judged import LISTS, SOME, TURNINGS
from tests.test_tables import all_nodes
from turnsfit.chains import first_break, made_along
from turnsfit.fitting import fits
from turnsfit.judged import Breaks, verdict
from turnsfit.turnings import made_document
from turnsfit.turningtext import read_turning

NODES = all_nodes(4, ("x", "y"))


class ChainsTest(Case):
    def test_example(self):
        self.assertEqual((made_along(turnings=(BARE, BARE), node=("list", (("item", ()),))), made_along([BARE], ("list", (("item", ("x",)),)))),
                         (None, ("table", (("row", ()),))))
        self.assertEqual((first_break(turnings=(BARE,), schemas=(LISTS, ROWS)) == (0, Breaks(("list", ()), ())), first_break((), (LISTS,))),
                         (True, None))

    def test_made_along(self):
        chance = seeded(601)
        for _ in range(300):
            chain, node = [chance.choice(TURNINGS) for _ in range(chance.randint(0, 4))], chance.choice(NODES)
            made = node
            for turning in chain:
                made = None if made is None else made_document(turning, made)
            self.assertEqual(made_along(chain, node), made)
        self.assertEqual(made_along((), ("a", ("x",))), ("a", ("x",)))
        self.assertIsNone(made_along((read_turning("a, a a b() b()"), read_turning("a, a a b()")), ("a", ())))
        self.assertIsNone(made_along((read_turning('a, a a "x"'), read_turning("a, a a b()")), ("a", ())))

    def test_first_breaks(self):
        chance = seeded(602)
        told = [0, 0, 0]
        for _ in range(200):
            many = chance.randint(1, 3)
            schemas = [lively_schema(chance, 2) for _ in range(many + 1)]
            chain = [chance.choice(TURNINGS) for _ in range(many)]
            if chance.random() < .5:
                schemas[1] = schemas[0]
                chain[0] = TURNINGS[0]
            found = first_break(chain, schemas)
            verdicts = [verdict(chain[at], schemas[at], schemas[at + 1]) for at in range(many)]
            breaks = [(at, one) for at, one in enumerate(verdicts) if isinstance(one, Breaks)]
            self.assertTrue(found == (breaks[0] if breaks else None))
            told[2 if found is None else min(found[0], 1)] += 1
            if found is None:
                for node in NODES:
                    if fits(schemas[0], node):
                        self.assertTrue(fits(schemas[-1], made_along(chain, node)))
        self.assertTrue(min(told) > 5, told)
        self.assertEqual(first_break([], [SOME]), None)


if __name__ == "__main__":
    unittest.main()
