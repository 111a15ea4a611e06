"""Points 87 and 88: desks, records and audits."""

import unittest

from tests.helping import Case, odd_values, seeded
from tests.test_house import NODES, random_call
from tests.test_sheets import sheets_of
from tests.test_judged import TURNINGS
from turnsfit.asks import Ask
from turnsfit.audit import audit
from turnsfit.commands import call_line, read_call
from turnsfit.desk import Desk, run_lines
from turnsfit.doubled import two_typings
from turnsfit.errors import InvalidCommand
from turnsfit.exchanges import plain_or_exchange
from turnsfit.facts import facts_of
from turnsfit.fitting import fits
from turnsfit.house import House
from turnsfit.joined import is_within
from turnsfit.judged import Leads, verdict
from turnsfit.leastnodes import least_document
from turnsfit.mended import distance
from turnsfit.nodetext import thing_text
from turnsfit.schematext import schema_text
from turnsfit.sheets import sheet_holds
from turnsfit.turningtext import turning_text

START = ("all schema sa a, a x b*, b y #?; schema sb a, a x [b #]*, b y #?; schema sc -; turning ta a, a # *, a x x(!a), a y y(!a); turning tb a; "
         'link la ta sa sb; document da sa x(y("q") y()); document db sb x("b")')
QUESTIONS = ("calls", "depth", "names schema", "names document", "names turning", "names link", "thing sa", "thing da", "thing ta", "thing la",
             "thing sc", "made la da", "fits sa da", "fits sa db", "fits sc da", "cost sa da", "cost sa db", "cost sc da", "empty sa", "empty sc",
             "single sa", "single sb", "plain sa", "plain sc", "within sa sb", "within sb sa", "within sc sa", "leads ta sa sb", "leads ta sb sa",
             "leads tb sa sb", "leads tb sc sa")
REFUSED = (("thing none", "name"), ("made none none", "name"), ("made la none", "name"), ("made da none", "sort"), ("made sa da", "sort"), ("made la sa", "sort"),
           ("made la db", "schema"), ("fits none da", "name"), ("fits da none", "sort"), ("fits sa none", "name"), ("fits sa sa", "sort"), ("cost none none", "name"),
           ("cost ta da", "sort"), ("cost sc none", "name"), ("cost sc da", "empty"), ("empty none", "name"), ("empty da", "sort"), ("single la", "sort"),
           ("single none", "name"), ("plain ta", "sort"), ("plain none", "name"), ("within none sa", "name"), ("within da none", "sort"), ("within sa none", "name"),
           ("within sa ta", "sort"), ("leads none sa sa", "name"), ("leads sa none sa", "sort"), ("leads ta none sa", "name"), ("leads ta ta none", "sort"),
           ("leads ta sa none", "name"), ("leads ta sa la", "sort"))
WRONG = ("", " ", "call", "calls ", "calls a", "depth 1", "names", "names sort", "names schema schema", "names all", "thing", "thing A", "thing a b", "thing  a",
         "made a", "made a b c", "fits a", "fits a b c", "fits a 1", "cost", "empty", "empty a b", "single", "plain", "within a", "leads a b", "leads a b c d",
         "Empty a", "empty A", " empty a", "empty a ", "undo ", "answer a b", "names document ", "fits\na b")


def random_line(chance):
    if chance.random() < .5:
        while True:
            try:
                return call_line(random_call(chance))
            except InvalidCommand:
                continue
    word = chance.choice(("calls", "depth", "names", "thing", "made", "fits", "cost", "empty", "single", "plain", "within", "leads"))
    if word in ("calls", "depth"):
        return word
    if word == "names":
        return word + " " + chance.choice(("schema", "document", "turning", "link"))
    sorts = {"thing": chance.choice("sdtl"), "made": "ld", "fits": "sd", "cost": "sd", "within": "ss", "leads": "tss"}.get(word, "s")
    if chance.random() < .1:
        sorts = [chance.choice("sdtl") for _ in sorts]
    return " ".join([word] + [sort + chance.choice("aab") for sort in sorts])


class Account:
    """A plain account of a desk: a house asked in its own words, and searches."""

    def __init__(self):
        self.house = House()

    def say(self, line):
        words = line.split(" ")
        word, names = words[0], words[1:]
        if word not in ("calls", "depth", "names", "thing", "made", "fits", "cost", "empty", "single", "plain", "within", "leads"):
            return ("did", self.house.do(read_call(line)))
        if word == "calls":
            return ("told", tuple([call_line(call) for call in self.house.calls()]))
        if word == "depth":
            return ("told", self.house.depth())
        if word == "names":
            return ("told", self.house.names_now(names[0]))
        sorts = {"thing": [None], "made": ["link", "document"], "fits": ["schema", "document"], "cost": ["schema", "document"],
                 "within": ["schema"] * 2, "leads": ["turning", "schema", "schema"]}.get(word, ["schema"])
        there = {name: sort for sort in ("schema", "document", "turning", "link") for name in self.house.names_now(sort)}
        for name, sort in zip(names, sorts):
            if name not in there:
                return ("refused", "name")
            if sort is not None and there[name] != sort:
                return ("refused", "sort")
        things = [self.house.thing_now(name)[1] for name in names]
        if word == "thing":
            return ("told", self.thing_line(names[0], there[names[0]], things[0]))
        if word == "made":
            if things[0][1] != things[1][0]:
                return ("refused", "schema")
            return ("told", thing_text(self.house.made_now(*names)))
        things = [thing[1] if sort == "document" else thing for thing, sort in zip(things, sorts)]
        answer = {"fits": fits, "cost": distance, "empty": lambda one: least_document(one) is None, "single": lambda one: two_typings(one) is None,
                  "plain": lambda one: plain_or_exchange(one)[0] == "plain", "within": lambda one, other: is_within(one, other) is None,
                  "leads": lambda *three: isinstance(verdict(*three), Leads)}[word](*things)
        return ("refused", "empty") if answer is None else ("told", answer)

    def thing_line(self, name, sort, thing):
        texts = {"schema": lambda: schema_text(thing), "turning": lambda: turning_text(thing), "document": lambda: thing[0] + " " + thing_text(thing[1]),
                 "link": lambda: " ".join(thing)}
        return sort + " " + name + " " + texts[sort]()


def changed_records(chance, record):
    """Records with a row, an outcome or a sheet left out, turned or exchanged."""
    at = chance.randrange(len(record))
    line, outcome, sheets = record[at]
    other = record[chance.randrange(len(record))]
    rows = [(line, outcome, ()), (line, outcome, sheets[1:]), (line, outcome, other[2]), (line, outcome, sheets + other[2]), (line, other[1], sheets),
            (other[0], outcome, sheets), (line, other[1], other[2]), other, (line, outcome, sheets[::-1])]
    for wrong in (("told", True), ("told", False), ("did", "done"), ("did", "bars"), ("did", "breaks"), ("did", "nothing"), ("did", "name"), ("refused", "name"),
                  ("refused", "empty"), ("told", 0), ("told", 1), ("told", ())):
        rows.append((line, wrong, sheets))
        rows.append((line, wrong, sheets + other[2]))
    return [record[:at] + record[at + 1:]] + [record[:at] + (row,) + record[at + 1:] for row in rows]


class DeskTest(Case):
    def test_example(self):
        desk = Desk()
        self.assertEqual((desk.say(line="all schema list all, all ul item*, item li #; document mine list ul(li(\"a\"))"), desk.say("edit mine put - 1 \"b\"")),
                         (("did", "done"), ("did", "bars")))
        self.assertEqual((desk.say("edit mine put - 1 li(\"b\")"), desk.say("thing mine"), desk.say("fits list mine"), desk.say("empty mine")),
                         (("did", "done"), ("told", 'document mine list ul(li("a") li("b"))'), ("told", True), ("refused", "sort")))
        self.assertEqual((audit(record=desk.record()), audit((("empty list", ("told", True), ()),)), audit((("fits a b", ("refused", "name"), ()),))),
                         (None, 0, None))

    def started(self):
        desk = Desk()
        self.assertEqual(desk.say(START), ("did", "done"))
        return desk

    def test_each_question(self):
        desk, account = self.started(), Account()
        account.say(START)
        for line in QUESTIONS:
            self.assertEqual(desk.say(line), account.say(line), line)
        self.assertEqual((desk.say("calls"), desk.say("depth"), desk.say("names link"), desk.say("thing da"), desk.say("thing sc"), desk.say("made la da")),
                         (("told", (START,)), ("told", (1, 0)), ("told", ("la",)), ("told", 'document da sa x(y("q") y())'), ("told", "schema sc -"), ("told", 'x(y("q") y())')))
        self.assertEqual((desk.say("fits sa db"), desk.say("cost sa db"), desk.say("empty sc"), desk.say("leads tb sa sb"), desk.say("within sb sa"), desk.say("within sc sa")),
                         (("told", False), ("told", 1), ("told", True), ("told", False), ("told", False), ("told", True)))
        for line, word in REFUSED:
            self.assertEqual(desk.say(line), ("refused", word), line)
        record = desk.record()
        self.assertIsNone(audit(record))
        self.assertEqual([row[0] for row in record], list(desk.said()))
        for line, outcome, sheets in record:
            self.assertTrue(all([sheet_holds(sheet) for sheet in sheets]))
            if line.split(" ")[0] in ("fits", "cost", "empty", "single", "plain", "within", "leads") and outcome[0] == "told":
                self.assertTrue([fact for sheet in sheets for fact in facts_of(sheet) if fact[0] == line.split(" ")[0] and fact[2] == outcome[1]], line)

    def test_wrong_lines(self):
        desk = self.started()
        for line in WRONG:
            self.fails(InvalidCommand, None, desk.say, line)
        for value in odd_values():
            self.fails(InvalidCommand, None, desk.say, value)
        self.assertEqual((desk.said(), desk.say("depth"), desk.said()), ((START,), ("told", (1, 0)), (START, "depth")))

    def test_run_lines(self):
        lines = [START, "undo", "depth", "redo", "names schema"]
        self.assertEqual(run_lines(lines=lines), (("did", "done"), ("did", "done"), ("told", (0, 1)), ("did", "done"), ("told", ("sa", "sb", "sc"))))
        self.assertEqual(run_lines(tuple(lines)), run_lines(lines))
        self.assertEqual(run_lines(()), ())
        for value in odd_values():
            self.fails(InvalidCommand, None, run_lines, [START, value])

    def test_beside_a_plain_account(self):
        for seed in range(25):
            chance = seeded(8700 + seed)
            desk, account = Desk(), Account()
            lines = [START] + [random_line(chance) for _ in range(30)]
            for line in lines:
                self.assertEqual(desk.say(line), account.say(line), line)
            self.assertEqual(desk.said(), tuple(lines))
            self.assertEqual(run_lines(lines), tuple([row[1] for row in desk.record()]))
            self.assertIsNone(audit(desk.record()))

    def test_records(self):
        self.assertEqual((Desk().record(), Desk().said(), audit(Desk().record())), ((), (), None))
        desk = self.started()
        record = desk.record()
        self.assertEqual((len(record), record[0][:2], len(record[0][2])), (1, (START, ("did", "done")), 3))
        desk.say("change sb a, a x [b #]+, b y #?")
        desk.say("edit da drop - 0")
        desk.say("rules ta a")
        self.assertEqual([row[1] for row in desk.record()], [("did", "done"), ("did", "breaks"), ("did", "done"), ("did", "breaks")])
        self.assertIsNone(audit(desk.record()))
        self.assertTrue(all([sheet_holds(sheet) for row in desk.record() for sheet in row[2]]))

    def test_audits_of_changed_records(self):
        """Up to its first wrong row a record tells nothing false: each outcome ahead of it is that of a desk."""
        wrong = [0, 0]
        for seed in range(6):
            chance = seeded(8800 + seed)
            desk = Desk()
            for line in [START] + [random_line(chance) for _ in range(12)]:
                desk.say(line)
            record = desk.record()
            for _ in range(3):
                for other in changed_records(chance, record):
                    found = audit(other)
                    wrong[found is None] += 1
                    right = other if found is None else other[:found]
                    told = run_lines([row[0] for row in right])
                    self.assertEqual(told, tuple([row[1] for row in right]))
                    for mine, theirs in zip(told, right):
                        self.assertEqual(repr(mine), repr(theirs[1]))
        self.assertTrue(min(wrong) > 100, wrong)

    def test_outcomes_turned(self):
        """An outcome turned to something false is told at that row at the latest, whatever sheets lie beside it."""
        desk = self.started()
        for line in QUESTIONS + ("edit da put - 0 \"b\"", "rules ta a", "edit da drop - 0", "change sa a, a x b*, b y #?", "undo", "redo", "redo"):
            desk.say(line)
        record = desk.record()
        self.assertIsNone(audit(record))
        every = tuple([sheet for row in record for sheet in row[2]])
        outcomes = sorted({row[1] for row in record}, key=repr) + [("told", 0), ("told", 1), ("told", 2), ("refused", "empty"), ("did", "call"), ("told", None), None, (), 5]
        chance = seeded(881)
        for at, (line, outcome, sheets) in enumerate(record):
            for other in chance.sample(outcomes, 12) + [("told", not outcome[1]), ("told", int(outcome[1] is True))]:
                if repr(other) != repr(outcome):
                    for beside in (sheets, tuple(chance.sample(every, 8))):
                        self.assertEqual(audit(record[:at] + ((line, other, beside),)), at, (line, other))
        for at, (line, outcome, sheets) in enumerate(record):
            self.assertEqual(audit(record[:at] + ((line, outcome, ()),)), at if sheets else None)
            self.assertEqual(audit(record[:at] + ((line, outcome, sheets + (every[0],)),)), None)
            self.assertEqual(audit(record[:at] + ((line, outcome, sheets + (("fits", 1, 2),)),)), at)
            self.assertEqual(audit(record[:at] + ((line, list(outcome), sheets),)), at)
            self.assertEqual(audit(record[:at] + ((line, outcome, list(sheets)),)), at)
            self.assertEqual(audit(record[:at] + ([line, outcome, sheets],)), at)
            self.assertEqual(audit(record[:at] + ((line, outcome),)), at)
            self.assertEqual(audit(record[:at] + ((line + " ", outcome, sheets),)), at)

    def test_facts_that_follow(self):
        """The answers may be told by what follows from the sheets, too."""
        desk = self.started()
        first = desk.record()
        sheets = {}
        for line in ("fits sa da", "within sa sb", "leads ta sa sb", "cost sa db", "within sb sa"):
            desk.say(line)
            sheets[line] = desk.record()[-1][2]
        for line, outcome, told in (("empty sa", ("told", False), sheets["fits sa da"]), ("cost sa da", ("told", 0), sheets["fits sa da"]),
                                    ("fits sa db", ("told", False), sheets["cost sa db"]), ("within sb sa", ("told", False), first[0][2] + sheets["cost sa db"]),
                                    ("fits sb da", ("told", True), sheets["fits sa da"] + sheets["within sa sb"]), ("empty sb", ("told", False), sheets["within sb sa"]),
                                    ("fits sb da", ("told", True), sheets["fits sa da"] + sheets["leads ta sa sb"])):
            self.assertIsNone(audit(first + ((line, outcome, told),)), line)
            self.assertEqual(audit(first + ((line, outcome, told[:-1]),)), 1)

    def test_any_value(self):
        for value in odd_values():
            self.assertEqual(audit(value), None if value == () and isinstance(value, tuple) else 0 if isinstance(value, tuple) else -1)
            self.assertEqual(audit((value,)), 0)
            for row in ((value, ("did", "done"), ()), ("depth", value, ()), ("depth", ("told", value), ()), ("depth", ("told", (0, value)), ()), ("depth", ("told", (0, 0)), (value,)),
                        ("depth", ("told", (0, 0)), value)):
                right = row == ("depth", ("told", (0, 0)), ()) and "False" not in repr(row[1])
                self.assertEqual(audit((row,)), None if right else 0)
        self.assertEqual((audit([]), audit(()), audit((("depth", ("told", (0, False)), ()),)), audit((("depth", ("told", (0, 0)), ()),))), (-1, None, 0, None))
        self.assertEqual(audit((("schema s a, a x -", ("did", "done"), ()), ("cost s s", ("refused", "sort"), ()), ("empty s", None, ()))), 2)

    def test_sheets_beside(self):
        """Any sheets that hold may lie beside a row; asks, tables and turnings that grow, too."""
        desk = self.started()
        chance = seeded(889)
        schema = desk.record()[0][2][0][1][0]
        more = tuple(sheets_of(schema, schema, NODES[1], chance.choice(TURNINGS), Ask(schema, ("a", "b"))))
        self.assertTrue(len(more) > 8)
        row = desk.record()[0]
        self.assertIsNone(audit(((row[0], row[1], row[2] + more),)))
        self.assertEqual(audit(((row[0], row[1], more),)), 0)

    def test_great(self):
        wide = "a b, a x ([a b] #?)*, b y (a? #)*, c y #, d y (c a)"
        desk = Desk()
        desk.say("all " + "; ".join(["schema s" + name + " " + wide for name in "abc"] + ["turning t a, a # *, a x x(!a), a y y(!b), b # *, b x x(!a)"]))
        for name in "abcdefgh":
            desk.say("document d" + name + " sa x(" + " ".join(["x()"] * 30) + ")")
        for line in ("cost sb da", "fits sb da", "single sa", "plain sa", "within sa sb", "leads t sa sb", "link l t sa sb", "empty sa", "made l da"):
            desk.say(line)
        self.assertIsNone(audit(desk.record()))


if __name__ == "__main__":
    unittest.main()
