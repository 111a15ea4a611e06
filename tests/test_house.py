"""Points 77 to 80: houses."""

import unittest

from tests.helping import Case, nested, odd_values, seeded
from turnsfit.edits import all_done, is_edit
from turnsfit.errors import NoName, Refused
from turnsfit.fitting import fits
from turnsfit.house import House
from turnsfit.judged import Breaks, verdict
from turnsfit.nodetext import read_node
from turnsfit.refusals import bar
from turnsfit.schemas import Schema
from turnsfit.schematext import read_schema
from turnsfit.turnings import Turning, made_document
from turnsfit.turningtext import read_turning

SCHEMAS = [read_schema(text) for text in ("a, a x b*, b y #?", "a, a x b+, b y #?", "a, a x b*, b y -", "a, a x [b #]*, b y #?", "-", "a, a x a")]
TURNINGS = [read_turning(text) for text in ("a, a # *, a x x(!a), a y y(!a)", "a, a x x(!a), a y y()", "a, a x x()", "a")]
NODES = [read_node(text) for text in ("x()", "x(y())", 'x(y("a") y())', 'x("b")', "y()")]
EDITS = [("drop", (), 0), ("put", (), 0, ("y", ())), ("put", (), 1, "b"), ("name", (), "x"), ("name", (), "y"), ("say", (0,), 0, "c"),
         ("put", (0,), 0, "a"), 5, ("drop", (9,), 0), (), None]
SORTS = ("schema", "document", "turning", "link")


def schema_deed(word, name, schema):
    return (word, name, schema.types, schema.tops)


def turning_deed(word, name, turning):
    return (word, name, turning.rules, turning.mode)


def random_deed(chance):
    name, other, third = chance.choice("ab"), chance.choice("ab"), chance.choice("ab")
    kind = chance.randrange(12)
    if kind < 2:
        return schema_deed("schema", "s" + name, chance.choice(SCHEMAS))
    if kind < 4:
        return schema_deed("change", "s" + name, chance.choice(SCHEMAS))
    if kind == 4:
        return ("document", "d" + name, "s" + other, chance.choice(NODES))
    if kind < 7:
        return ("edit", "d" + name, chance.choice(EDITS))
    if kind == 7:
        return turning_deed("turning", "t" + name, chance.choice(TURNINGS))
    if kind == 8:
        return turning_deed("rules", "t" + name, chance.choice(TURNINGS))
    if kind < 11:
        return ("link", "l" + name, "t" + chance.choice("ab"), "s" + other, "s" + third)
    return ("drop", chance.choice("sdtl") + name)


def random_call(chance):
    kind = chance.random()
    if kind < .12:
        return (chance.choice(("undo", "redo")),)
    if kind < .35:
        return ("batch", tuple([random_deed(chance) for _ in range(chance.randint(0, 4))]))
    return random_deed(chance)


class Account:
    """A plain account of a house: all is judged anew behind each call."""

    def __init__(self):
        self.things, self.past, self.later, self.why = {}, [], [], None

    def do(self, call):
        self.why = None
        if call[0] in ("undo", "redo"):
            gone, ahead = (self.past, self.later) if call[0] == "undo" else (self.later, self.past)
            if not gone:
                return "nothing"
            one, things = gone.pop()
            ahead.append((one, self.things))
            self.things = things
            return "done"
        things = dict(self.things)
        for deed in call[1] if call[0] == "batch" else [call]:
            word = self.deed(things, *deed)
            if word:
                return word
        for name in sorted(things):
            if things[name][0] == "document":
                schema, node = things[name][1]
                if not fits(things[schema][1], node):
                    self.why = ("bars", name) + bar(things[schema][1], node)
                    return "bars"
        for name in sorted(things):
            if things[name][0] == "link":
                found = verdict(*[things[other][1] for other in things[name][1]])
                if isinstance(found, Breaks):
                    self.why = ("breaks", name, found.node)
                    return "breaks"
        if things == self.things:
            return "nothing"
        self.past.append((call, self.things))
        self.later = []
        self.things = things
        return "done"

    def deed(self, things, word, name, *rest):
        if (name in things) == (word in SORTS):
            return "name"
        needs = {"change": [(name, "schema")], "edit": [(name, "document")], "rules": [(name, "turning")],
                 "document": [(rest[0], "schema")] if rest else [],
                 "link": list(zip(rest, ("turning", "schema", "schema")))}.get(word, [])
        for other, sort in needs:
            if other not in things:
                return "name"
            if things[other][0] != sort:
                return "sort"
        if word == "drop":
            for sort, thing in things.values():
                if (sort == "document" and thing[0] == name) or (sort == "link" and name in thing):
                    return "used"
            del things[name]
        elif word == "edit":
            schema, node = things[name][1]
            if not is_edit(node, rest[0]):
                return "edit"
            things[name] = ("document", (schema, all_done(node, rest)))
        elif word in ("schema", "change"):
            things[name] = ("schema", Schema(*rest))
        elif word in ("turning", "rules"):
            things[name] = ("turning", Turning(*rest))
        else:
            things[name] = (word, tuple(rest))
        return None


def told_by(house):
    """All that a house tells but why the last call was refused."""
    names = {sort: house.names_now(sort) for sort in SORTS}
    return [names, {name: house.thing_now(name) for sort in SORTS for name in names[sort]}, house.calls(), house.depth()]


class HouseTest(Case):
    def beside(self, house, account):
        names, things, calls, depth = told_by(house)
        self.assertEqual(things, account.things)
        self.assertEqual(names, {sort: tuple(sorted([name for name in things if things[name][0] == sort])) for sort in SORTS})
        self.assertEqual(calls, tuple([call for call, _ in account.past]))
        self.assertEqual(depth, (len(account.past), len(account.later)))
        self.assertEqual(house.why_now(), account.why)

    def test_example(self):
        house = House()
        self.assertEqual(house.do(call=("batch", (("schema", "list", (("all", "ul", ("star", ("one", "item"))), ("item", "li", ("text",))), ("all",)),
                                                  ("document", "mine", "list", ("ul", (("li", ("a",)),)))))), "done")
        self.assertEqual((house.do(("edit", "mine", ("put", (), 1, "b"))), house.why_now(), house.names_now(sort="schema"), house.do(("drop", "list"))),
                         ("bars", ("bars", "mine", (), "row"), ("list",), "used"))
        self.assertEqual((house.do(("edit", "mine", ("put", (), 1, ("li", ("b",))))), house.thing_now(name="mine")[1][1], house.depth()),
                         ("done", ("ul", (("li", ("a",)), ("li", ("b",)))), (2, 0)))
        self.assertEqual((house.do(("undo",)), house.do(("undo",)), house.names_now("document")), ("done", "done", ()))

    def test_beside_a_plain_account(self):
        words = {}
        for seed in range(60):
            chance = seeded(7700 + seed)
            house, account = House(), Account()
            start = ("batch", (schema_deed("schema", "sa", SCHEMAS[0]), schema_deed("schema", "sb", chance.choice(SCHEMAS[:4])),
                               turning_deed("turning", "ta", TURNINGS[0])))
            for call in [start] + [random_call(chance) for _ in range(40)]:
                before, twin = told_by(house), house.twin()
                word = account.do(call)
                words[word] = words.get(word, 0) + 1
                self.assertEqual(house.do(call), word)
                self.beside(house, account)
                if word != "done":
                    self.assertEqual(told_by(house), before)
                # A twin stays as it is while the other one goes on, and goes on likewise.
                self.assertEqual(told_by(twin), before)
                self.assertEqual((twin.do(call), twin.why_now(), told_by(twin)), (word, house.why_now(), told_by(house)))
            self.main_claim(house)
        self.assertTrue(all([words.get(word, 0) > 15 for word in ("done", "name", "edit", "used", "bars", "breaks", "nothing")]), words)

    def main_claim(self, house):
        """Every document fits, every link leads each document of its first schema, kept or not."""
        for name in house.names_now("document"):
            schema, node = house.thing_now(name)[1]
            self.assertTrue(fits(house.thing_now(schema)[1], node))
        for name in house.names_now("link"):
            turning, schema, other = [house.thing_now(each)[1] for each in house.thing_now(name)[1]]
            for node in NODES:
                if fits(schema, node):
                    self.assertTrue(fits(other, made_document(turning, node)))
            for document in house.names_now("document"):
                own, node = house.thing_now(document)[1]
                if own == house.thing_now(name)[1][1]:
                    self.assertTrue(fits(other, house.made_now(link=name, document=document)))

    def full(self):
        house = House()
        deeds = (schema_deed("schema", "sa", SCHEMAS[0]), schema_deed("schema", "sb", SCHEMAS[0]), turning_deed("turning", "ta", TURNINGS[0]),
                 ("link", "la", "ta", "sa", "sb"), ("document", "da", "sa", NODES[1]), ("document", "db", "sb", NODES[0]))
        self.assertEqual(house.do(("batch", deeds)), "done")
        return house

    def told(self, call, word, why=None):
        house = self.full()
        before = told_by(house)
        self.assertEqual((house.do(call), house.why_now()), (word, why))
        if word != "done":
            self.assertEqual(told_by(house), before)

    def test_calls(self):
        right = schema_deed("schema", "new", SCHEMAS[0])
        for call in (("schema", "new", SCHEMAS[0].types), ("schema", "New", SCHEMAS[0].types, ("a",)), ("schema", "new", [], ()), ("schema", "new", (), ("a",)),
                     ("change", "sa", (("a", "x", ("one", "b")),), ()), ("document", "new", "sa", "text"), ("document", "new", "sa", ("x", ["y"])),
                     ("document", "new", "S", NODES[0]), ("edit", "da"), ("edit", "", EDITS[0]), ("turning", "new", (), ""), ("turning", "new", [], "a"),
                     ("rules", "ta", (("a", "", (("go", "a"),)),), "a"), ("link", "new", "ta", "sa"), ("link", "new", "ta", "sa", 5), ("drop", "da", "db"),
                     ("drop",), ("undo", "x"), ["undo"], ("redo", ()), ("batch",), ("batch", [right]), ("batch", (right, ("undo",))), ("batch", (("batch", ()),)),
                     ("batch", right), ("none", "a"), ("names", "sa"), list(right), (right,)):
            self.told(call, "call")
        for value in odd_values():
            for call in (value, ("batch", (value,)), ("batch", value), ("undo", value), ("drop", value), ("schema", "new", value, ()),
                         ("schema", "new", (), value), ("turning", "new", value, "a"), ("turning", "new", (), value), ("document", "new", "sa", value)):
                self.assertIn(self.full().do(call), ("call", "done", "name", "nothing", "bars"))
            if not is_edit(NODES[1], value):
                self.told(("edit", "da", value), "edit")

    def test_words(self):
        nodes = {"x": NODES[0]}
        for call, word in ((schema_deed("schema", "sa", SCHEMAS[0]), "name"), (schema_deed("schema", "da", SCHEMAS[0]), "name"),
                           (schema_deed("change", "none", SCHEMAS[0]), "name"), (schema_deed("change", "da", SCHEMAS[0]), "sort"),
                           (("document", "da", "sa", nodes["x"]), "name"), (("document", "new", "none", nodes["x"]), "name"),
                           (("document", "new", "new", nodes["x"]), "name"), (("document", "new", "ta", nodes["x"]), "sort"),
                           (("edit", "none", 5), "name"), (("edit", "la", 5), "sort"), (("edit", "da", 5), "edit"),
                           (turning_deed("turning", "ta", TURNINGS[0]), "name"), (turning_deed("rules", "none", TURNINGS[0]), "name"),
                           (turning_deed("rules", "sa", TURNINGS[0]), "sort"), (("link", "la", "ta", "sa", "sb"), "name"),
                           (("link", "new", "none", "sa", "sb"), "name"), (("link", "new", "sa", "none", "sb"), "sort"), (("link", "new", "ta", "none", "ta"), "name"),
                           (("link", "new", "ta", "ta", "none"), "sort"), (("link", "new", "ta", "sa", "none"), "name"), (("link", "new", "ta", "sa", "la"), "sort"),
                           (("drop", "none"), "name"), (("drop", "sa"), "used"), (("drop", "sb"), "used"), (("drop", "ta"), "used"), (("drop", "la"), "done"),
                           (("drop", "da"), "done"), (("redo",), "nothing"), (("undo",), "done"), (("batch", ()), "nothing")):
            self.told(call, word)

    def test_words_in_their_order(self):
        """For each two words that stand beside one another a call for which both could be told: the first one is."""
        bad = ("edit", "da", ("put", (), 0, "b"))
        # "call" ahead of "name", "name" ahead of "sort", "sort" ahead of "edit".
        self.told(("document", "da", "sa", "text"), "call")
        self.told(("batch", (("drop", "none"), ("drop", 5))), "call")
        self.told(("link", "new", "none", "ta", "ta"), "name")
        self.told(("edit", "sa", 5), "sort")
        # Deed by deed: the first one that cannot be done tells.
        self.told(("batch", (("edit", "da", 5), ("drop", "sa"))), "edit")
        self.told(("batch", (("drop", "sa"), ("edit", "da", 5))), "used")
        self.told(("batch", (("edit", "sa", 5), ("drop", "none"))), "sort")
        # "used" ahead of "bars", "bars" ahead of "breaks", "breaks" ahead of "nothing".
        self.told(("batch", (bad, ("drop", "sa"))), "used")
        self.told(("batch", (schema_deed("change", "sb", SCHEMAS[1]), bad)), "bars", ("bars", "da", (), "row"))
        self.told(("batch", (schema_deed("change", "sb", SCHEMAS[1]),)), "bars", ("bars", "db", (), "row"))
        self.told(("batch", (("drop", "db"), schema_deed("change", "sb", SCHEMAS[1]))), "breaks", ("breaks", "la", ("x", ())))
        self.told(turning_deed("rules", "ta", TURNINGS[3]), "breaks", ("breaks", "la", ("x", ())))
        self.told(schema_deed("change", "sa", SCHEMAS[0]), "nothing")
        self.told(("edit", "da", ("name", (), "x")), "nothing")
        self.told(("batch", (("drop", "la"), ("link", "la", "ta", "sa", "sb"))), "nothing")
        self.told(("batch", (bad, ("edit", "da", ("drop", (), 0)))), "nothing")

    def test_least_names(self):
        bars = [("edit", "db", ("put", (), 0, "b")), ("edit", "da", ("name", (0,), "z"))]
        self.told(("batch", tuple(bars)), "bars", ("bars", "da", (0,), "name"))
        more = ("link", "lb", "ta", "sb", "sa")
        self.told(("batch", (more, turning_deed("rules", "ta", TURNINGS[3]))), "breaks", ("breaks", "la", ("x", ())))
        self.told(("batch", (("link", "k", "ta", "sb", "sa"), turning_deed("rules", "ta", TURNINGS[3]))), "breaks", ("breaks", "k", ("x", ())))
        self.told(("document", "new", "sa", ("y", ())), "bars", ("bars", "new", (), "top"))

    def test_batches_whose_first_deeds_would_be_refused_alone(self):
        for deeds in ((("edit", "da", ("put", (), 0, "b")), ("edit", "da", ("drop", (), 0)), ("edit", "da", ("drop", (), 0))),
                      (("edit", "da", ("drop", (0,), 0)), ("edit", "da", ("drop", (), 0))),
                      (schema_deed("change", "sb", SCHEMAS[3]), ("drop", "la"), schema_deed("change", "sa", SCHEMAS[3]))):
            house = self.full()
            word = house.do(("batch", deeds))
            one_by_one = [House.do(self.full(), deeds[0])]
            self.assertTrue(word != "done" or one_by_one == ["bars"] or deeds[0][0] == "change")
        house = self.full()
        self.assertEqual(house.do(("batch", (("edit", "da", ("put", (), 0, "b")), schema_deed("change", "sb", SCHEMAS[3]), schema_deed("change", "sa", SCHEMAS[3])))), "done")
        self.assertEqual(house.thing_now("da"), ("document", ("sa", ("x", ("b", ("y", ()))))))
        self.assertEqual((house.do(("undo",)), house.thing_now("da"), house.do(("redo",)), house.depth()), ("done", ("document", ("sa", NODES[1])), "done", (2, 0)))

    def test_batches_beside_deeds_one_by_one(self):
        chance = seeded(7801)
        same = 0
        for _ in range(150):
            deeds = tuple([random_deed(chance) for _ in range(chance.randint(1, 3))])
            whole, apart = self.full(), self.full()
            words = [apart.do(deed) for deed in deeds]
            if set(words) == {"done"}:
                same += 1
                self.assertIn(whole.do(("batch", deeds)), ("done", "nothing"))
                self.assertEqual(told_by(whole)[:2], told_by(apart)[:2])
        self.assertTrue(same > 10, same)

    def test_undo_and_redo(self):
        house = House()
        self.assertEqual((house.do(("undo",)), house.do(("redo",)), house.depth(), house.calls(), house.why_now()), ("nothing", "nothing", (0, 0), (), None))
        calls = [schema_deed("schema", name, SCHEMAS[0]) for name in ("a", "b", "c")]
        for call in calls:
            house.do(call)
        self.assertEqual((house.do(("undo",)), house.do(("undo",)), house.depth(), house.calls()), ("done", "done", (1, 2), (calls[0],)))
        self.assertEqual((house.do(("drop", "none")), house.do(calls[0]), house.do(5), house.depth()), ("name", "name", "call", (1, 2)))
        self.assertEqual((house.do(("redo",)), house.names_now("schema"), house.depth()), ("done", ("a", "b"), (2, 1)))
        self.assertEqual((house.do(("drop", "a")), house.depth(), house.do(("redo",)), house.calls()), ("done", (3, 0), "nothing", (calls[0], calls[1], ("drop", "a"))))

    def test_why_now(self):
        bad = ("edit", "da", ("put", (), 0, "b"))
        for call in (5, ("undo",), ("redo",), ("drop", "none"), ("batch", ()), schema_deed("schema", "new", SCHEMAS[0])):
            house = self.full()
            self.assertEqual((house.do(bad), house.why_now() is None, house.twin().why_now()), ("bars", False, ("bars", "da", (), "row")))
            house.do(call)
            self.assertIsNone(house.why_now())

    def test_things(self):
        house = self.full()
        self.assertEqual((house.thing_now("sa") == ("schema", SCHEMAS[0]), house.thing_now("ta") == ("turning", TURNINGS[0])), (True, True))
        self.assertEqual((house.thing_now("la"), house.thing_now("da")), (("link", ("ta", "sa", "sb")), ("document", ("sa", NODES[1]))))
        for value in odd_values():
            if value != "a":
                self.fails(NoName, value, house.thing_now, value)
                self.fails(NoName, value, house.made_now, value, "none")
                self.fails(NoName, value, house.made_now, "la", value)
        self.assertEqual(house.made_now("la", "da"), NODES[1])
        for link, document in (("la", "db"), ("la", "sa"), ("da", "da"), ("ta", "da"), ("sa", "la"), ("da", "la")):
            self.fails(Refused, "schema", house.made_now, link, document)
        self.fails(NoName, "none", house.made_now, "none", "nil")
        self.fails(NoName, "none", house.made_now, "da", "none")
        self.fails(NoName, "none", house.made_now, "none", "da")

    def test_links_one_behind_another(self):
        house = self.full()
        self.assertEqual(house.do(("batch", (schema_deed("schema", "sc", SCHEMAS[2]), turning_deed("turning", "tb", TURNINGS[1]), ("link", "lb", "tb", "sb", "sc")))), "done")
        made = made_document(house.thing_now("tb")[1], house.made_now("la", "da"))
        self.assertTrue(fits(SCHEMAS[2], made))

    def test_great(self):
        house = House()
        many = 12
        names = ["n" + chr(97 + at) for at in range(many)]
        wide = read_schema("a, a x [b c d]*, b y [# a]*, c y (# b? c?), d z (a? b? [c d]*)")
        keep = read_turning("m, m # *, m x x(!m !n), m y y(!m), m z z(!m), n # -, n x x(!n), n y -")
        deeds = [schema_deed("schema", "s" + name, wide) for name in names] + [turning_deed("turning", "t" + name, keep) for name in names]
        self.assertEqual([house.do(("batch", tuple(deeds[at:at + 16]))) for at in (0, 16)], ["done", "done"])
        node = ("x", tuple([("z", ()) for _ in range(50)]))
        self.assertEqual(house.do(("batch", tuple([("document", "d" + name, "s" + name, node) for name in names]))), "done")
        word = house.do(("batch", tuple([("link", "l" + name, "t" + name, "s" + name, "s" + names[0]) for name in names])))
        self.assertIn(word, ("done", "breaks"))
        deep = nested(("z", ()), 70, lambda inner: ("z", (inner,)))
        self.assertEqual(house.do(("edit", "d" + names[0], ("put", (), 0, deep))), "done")
        self.assertEqual(house.do(("undo",)), "done")


if __name__ == "__main__":
    unittest.main()
