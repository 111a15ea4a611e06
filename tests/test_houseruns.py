"""Points 81 to 83: runs, and papers of houses."""

import unittest

from tests.helping import Case, odd_values, seeded
from tests.test_house import NODES, SCHEMAS, TURNINGS, random_call, schema_deed, turning_deed
from turnsfit.errors import NoName
from turnsfit.fitting import check_typing
from turnsfit.house import House
from turnsfit.houseruns import check_house_paper, house_paper, parts_of_link, run
from turnsfit.judged import Breaks, Leads, check_verdict

START = ("batch", (schema_deed("schema", "sa", SCHEMAS[0]), schema_deed("schema", "sb", SCHEMAS[3]), turning_deed("turning", "ta", TURNINGS[0]),
                   ("link", "la", "ta", "sa", "sb"), ("link", "z", "ta", "sa", "sa"), ("document", "da", "sa", NODES[1]), ("document", "db", "sb", NODES[3])))


def full():
    house = House()
    house.do(START)
    return house


class HouseRunsTest(Case):
    def test_example(self):
        house = House()
        house.do(("batch", (("schema", "list", (("all", "ul", ("star", ("one", "item"))), ("item", "li", ("text",))), ("all",)),
                            ("document", "mine", "list", ("ul", (("li", ("a",)),))))))
        self.assertTrue(check_house_paper(house=house, value=house_paper(house=house)))

    def test_run(self):
        chance = seeded(811)
        for _ in range(20):
            calls = [START] + [random_call(chance) for _ in range(15)] + [["undo"], 5]
            house = House()
            rows = tuple([(call, house.do(call), house.why_now()) for call in calls])
            self.assertEqual(run(calls=calls), rows)
            self.assertEqual(run(tuple(calls)), rows)
            self.assertEqual([row[0] for row in rows], calls)
        wrong = ["undo"]
        self.assertIs(run([wrong])[0][0], wrong)
        self.assertEqual(run([wrong]), ((["undo"], "call", None),))
        self.assertEqual(run(()), ())
        for value in odd_values():
            self.assertEqual(run([value])[0][1:], ("name" if isinstance(value, tuple) and value[:1] == ("drop",) and len(value) == 2 and value[1] == "a"
                                                   else "call", None))

    def test_papers(self):
        house = full()
        paper = house_paper(house)
        self.assertEqual([name for name, _ in paper], ["da", "db", "la", "z"])
        self.assertTrue(check_typing(SCHEMAS[0], NODES[1], paper[0][1]) and check_verdict(TURNINGS[0], SCHEMAS[0], SCHEMAS[3], paper[2][1]))
        chance = seeded(821)
        for _ in range(15):
            for call in [random_call(chance) for _ in range(8)]:
                house.do(call)
            paper = house_paper(house)
            self.assertIs(check_house_paper(house, paper), True)
            for at in range(len(paper)):
                self.assertFalse(check_house_paper(house, paper[:at] + paper[at + 1:]))
                self.assertFalse(check_house_paper(house, paper[:at] + (list(paper[at]),) + paper[at + 1:]))
                self.assertFalse(check_house_paper(house, paper[:at] + (paper[at][::-1],) + paper[at + 1:]))
            self.assertFalse(check_house_paper(house, list(paper)))
            self.assertFalse(check_house_paper(house, paper + paper[:1]) and paper)
            self.assertIs(check_house_paper(house, paper[::-1]), len(paper) < 2)

    def test_empty_houses(self):
        self.assertEqual((house_paper(House()), check_house_paper(House(), ()), check_house_paper(House(), []), check_house_paper(full(), ())),
                         ((), True, False, False))

    def test_any_value(self):
        house = full()
        paper = house_paper(house)
        for value in odd_values() + [Breaks(("x", ()), ()), Leads(())]:
            for at in range(len(paper)):
                for other in (value, (value, paper[at][1]), (paper[at][0], value), (paper[at][0], Leads(value))):
                    self.assertIs(check_house_paper(house, paper[:at] + (other,) + paper[at + 1:]), False)
            self.assertIs(check_house_paper(house, value), False)

    def test_parts_of_links(self):
        house = full()
        self.assertTrue(parts_of_link(house=house, name="la") == (TURNINGS[0], SCHEMAS[0], SCHEMAS[3]))
        self.assertTrue(parts_of_link(house, "z") == (TURNINGS[0], SCHEMAS[0], SCHEMAS[0]))
        self.fails(NoName, "none", parts_of_link, house, "none")


if __name__ == "__main__":
    unittest.main()
