"""Point 86: lines of calls."""

import unittest

from tests.helping import Case, odd_values, random_node, seeded
from tests.test_house import random_call
from tests.test_schematext import random_schema
from tests.test_bearings import random_turning
from turnsfit.commands import call_line, read_call
from turnsfit.deeds import is_call
from turnsfit.errors import InvalidCommand
from turnsfit.house import House

NODE = ("ul", (("li", ("a",)),))
PAIRS = (
    (("undo",), "undo"), (("redo",), "redo"), (("batch", ()), "all"), (("drop", "a"), "drop a"), (("batch", (("drop", "a"),)), "all drop a"),
    (("batch", (("drop", "a"), ("drop", "b"))), "all drop a; drop b"), (("schema", "s", (), ()), "schema s -"),
    (("schema", "list", (("all", "ul", ("star", ("one", "item"))), ("item", "li", ("text",))), ("all",)), "schema list all, all ul item*, item li #"),
    (("change", "s", (("a", "x", ("empty",)), ("b", "x", ("text",))), ("a", "b")), "change s a b, a x -, b x #"),
    (("document", "mine", "list", NODE), 'document mine list ul(li("a"))'), (("document", "all", "undo", ("drop", ())), "document all undo drop()"),
    (("turning", "t", (), "a"), "turning t a"), (("rules", "t", (("a", "", (("keep",),)), ("a", "x", ())), "a"), "rules t a, a # *, a x -"),
    (("link", "l", "t", "s", "s"), "link l t s s"), (("edit", "mine", ("put", (), 1, "b")), 'edit mine put - 1 "b"'),
    (("edit", "mine", ("put", (1, 0, 12), 0, NODE)), 'edit mine put 1.0.12 0 ul(li("a"))'), (("edit", "mine", ("drop", (7,), 30)), "edit mine drop 7 30"),
    (("edit", "mine", ("name", (), "drop")), "edit mine name - drop"), (("edit", "mine", ("say", (0,), 0, "a  1 ")), 'edit mine say 0 0 "a  1 "'),
    (("edit", "mine", ("put", (), 0, "")), 'edit mine put - 0 ""'))
WRONG = ("", " ", "all ", "all all", "all undo", "all drop a;", "all drop a ; drop b", "all drop a;drop b", "all; drop a", "drop", "drop ", "drop a ",
         "drop  a", "drop A", "drop abcdefghi", "drop a b", " drop a", "undo ", "redo x", "undo; undo", "batch", "schema", "schema s", "schema s ",
         "schema s a", "schema s a,  a x -", "schema S -", "schema s -, a x b", "change s -,", "document d s", "document d s ", 'document d s "x"', "document d s a() ",
         "document d s a() b()", "document d a()", "turning t", "turning t A", "turning t a, a x", "rules t a, a # !a", "link l t s", "link l t s s s",
         "edit", "edit d", "edit d ", "edit d put", "edit d put - 1", "edit d put - 1 ", "edit d put - 01 a()", "edit d put 0.01 1 a()", "edit d put 0. 1 a()",
         "edit d put .0 1 a()", "edit d put  1 a()", "edit d put -- 1 a()", "edit d put - -1 a()", "edit d put - +1 a()", "edit d put - 1 a() b()",
         "edit d drop - 0 ", "edit d drop - 0 a()", "edit d drop 0.- 0", "edit d drop -", "edit d drop - x", "edit d drop - \u0661", "edit d drop - \u00b2",
         "edit d name - 0", "edit d name - ", "edit d name - a b", "edit d say - 0 a()", "edit d say - 0", 'edit d say - 0 "A"', "edit d move - 0", "names a",
         "edit d drop - 1_0", "edit d drop - " + "9" * 4001, "edit d drop " + "9" * 5000 + " 0", "edit d drop - \n0", 'edit d put - 0 "' + "a" * 17 + '"')


class CommandsTest(Case):
    def test_there_and_back(self):
        for call, line in PAIRS:
            self.assertEqual(call_line(call=call), line)
            self.assertEqual(read_call(value=line), call)

    def test_wrong_lines(self):
        for line in WRONG:
            self.fails(InvalidCommand, None, read_call, line)
        for value in odd_values() + [("undo",), ["undo"], b"undo"]:
            self.fails(InvalidCommand, None, read_call, value)

    def test_calls_without_a_line(self):
        for call in (("edit", "d", 5), ("edit", "d", ()), ("edit", "d", ["drop", (), 0]), ("edit", "d", ("drop", [], 0)), ("edit", "d", ("drop", (), -1)),
                     ("edit", "d", ("drop", (), True)), ("edit", "d", ("drop", (False,), 0)), ("edit", "d", ("drop", (), "0")), ("edit", "d", ("say", (), 0, ("a", ()))),
                     ("edit", "d", ("say", (), 0, "A")), ("edit", "d", ("put", (), 0, ("a", []))), ("edit", "d", ("name", (), "A")), ("edit", "d", ("move", (), 0))):
            self.assertTrue(is_call(call))
            self.fails(InvalidCommand, None, call_line, call)
            self.fails(InvalidCommand, None, call_line, ("batch", (("drop", "a"), call)))

    def test_great_numbers(self):
        for number in (10 ** 3999, 10 ** 4000 - 1, 10 ** 20):
            call = ("edit", "d", ("drop", (number, 0), number))
            self.assertEqual(read_call(call_line(call)), call)

    def test_random_calls(self):
        chance = seeded(861)
        lines = set()
        for _ in range(400):
            call = random_call(chance)
            kind = chance.random()
            if kind < .2:
                schema = random_schema(chance)
                call = (chance.choice(("schema", "change")), "s", schema.types, schema.tops)
            elif kind < .4:
                turning = random_turning(chance)
                call = (chance.choice(("turning", "rules")), "t", turning.rules, turning.mode)
            elif kind < .6:
                call = ("document", "d", "s", random_node(chance, 4))
            try:
                line = call_line(call)
            except InvalidCommand:
                continue
            self.assertEqual(read_call(line), call)
            self.assertTrue("\n" not in line and line == line.strip())
            lines.add(line)
        self.assertTrue(len(lines) > 100)
        for line in sorted(lines)[::3]:
            for _ in range(12):
                at, sign = chance.randrange(len(line) + 1), chance.choice("ab01 -.;,()\"#*!?")
                for changed in (line[:at] + sign + line[at:], line[:at] + sign + line[at + 1:], line[:at] + line[at + 1:]):
                    try:
                        self.assertEqual(call_line(read_call(changed)), changed)
                    except InvalidCommand:
                        pass

    def test_calls_of_houses(self):
        chance = seeded(862)
        house = House()
        for _ in range(150):
            house.do(random_call(chance))
        self.assertTrue(len(house.calls()) > 5)
        for call in house.calls():
            self.assertEqual(read_call(call_line(call)), call)

    def test_great(self):
        line = "all " + "; ".join(['document d s ' + "a(" * 28 + " ".join(['"x"'] * 40) + ")" * 28] * 16)
        self.assertEqual(call_line(read_call(line)), line)
        for line in ("edit d put - 0 " + "a(" * 5000, "all " + "; " * 5000, "schema s " + "a " * 3000, "turning t a, a x " + "x(" * 5000, "drop " * 5000):
            self.fails(InvalidCommand, None, read_call, line)


if __name__ == "__main__":
    unittest.main()
