"""Points 25 and 26: tables."""

import itertools
import unittest

from tests.helping import GREAT, Case, nested, odd_values, seeded
from tests.test_schematext import random_schema
from turnsfit.errors import InvalidTable
from turnsfit.formulas import spells
from turnsfit.nodes import names_of
from turnsfit.schemas import Schema
from turnsfit.schematext import read_schema, schema_text
from turnsfit.tables import Table, is_table, need_table, state_behind, state_of, table_of, takes

LISTS = Schema((("i", "item", ("maybe", ("text",))), ("l", "list", ("some", ("one", "i")))), ("l",))
PAIRS = Table(("a",), (0,), (1, 0), ((1, 1), (0, 0)), (0,))


def types_of(schema, node):
    """The types that a node can be given, straight from point 20."""
    lots = [("",) if isinstance(thing, str) else types_of(schema, thing) for thing in node[1]]
    return tuple([kind for kind, name, formula in schema.types if name == node[0]
                  and any(spells(formula, row) for row in itertools.product(*lots))])


def all_forests(size, names):
    if size == 0:
        return [()]
    found = []
    for first in range(1, size + 1):
        things = [(name, inner) for name in names for inner in all_forests(first - 1, names)]
        for thing in things + ([""] if first == 1 else []):
            found.extend([(thing,) + rest for rest in all_forests(size - first, names)])
    return found


def all_nodes(most, names):
    """All documents with some names, up to a size, with the one text that counts."""
    return [(name, inner) for size in range(most) for name in names for inner in all_forests(size, names)]


class TablesTest(Case):
    def test_example(self):
        known = table_of(LISTS, ("item", "list"))
        self.assertEqual((takes(known, ("list", (("item", ()), ("item", ("x",))))), takes(known, ("list", ())),
                          state_of(known, ("menu", ()))), (True, False, None))

    def test_class(self):
        table = Table(names=1, begins=[], texts=None, steps="", ends=GREAT)
        self.assertEqual((table.names, table.begins, table.texts, table.steps, table.ends), (1, [], None, "", GREAT))
        self.assertTrue(table == Table(1, [], None, "", GREAT))
        for other in (Table(2, [], None, "", GREAT), Table(1, (), None, "", GREAT), Table(1, [], 0, "", GREAT),
                      Table(1, [], None, "a", GREAT), Table(1, [], None, "", 1), None, (1, [], None, "", GREAT)):
            self.assertTrue(table != other)

    def test_right_tables(self):
        for table in (PAIRS, Table((), (), (), (), ()), Table((), (), (0,), ((0,),), (0,)),
                      Table(("a", "b"), (0, 0), (0,), ((0,),), ())):
            self.assertIsNone(need_table(value=table))
            self.assertIs(is_table(table), True)

    def test_wrong_tables(self):
        steps = ((1, 1), (0, 0))
        wrong = ((None, -1), ((("a",), (0,), (1, 0), steps, (0,)), -1), (Table(["a"], (0,), (1, 0), steps, (0,)), 0),
                 (Table(("b", "a"), (0, 0), (1, 0), steps, ()), 0), (Table(("a", "a"), (0, 0), (1, 0), steps, ()), 0),
                 (Table(("",), None, None, None, None), 0), (Table(("a",), [0], (1, 0), steps, ()), 1),
                 (Table(("a",), (), (1, 0), steps, ()), 1), (Table(("a",), (2,), (1, 0), steps, ()), 1),
                 (Table(("a",), (False,), (1, 0), steps, ()), 1), (Table(("a",), (0,), [1, 0], steps, ()), 1),
                 (Table((), (), [1, 0], steps, ()), 2), (Table((), (), None, None, None), 2),
                 (Table(("a",), (0,), (1, 2), steps, ()), 2), (Table(("a",), (0,), (1, True), steps, ()), 2),
                 (Table(("a",), (0,), (1, 0), list(steps), ()), 3), (Table(("a",), (0,), (1, 0), steps[:1], ()), 3),
                 (Table(("a",), (0,), (1, 0), ((1, 1), [0, 0]), ()), 3), (Table(("a",), (0,), (1, 0), ((1, 1), (0,)), ()), 3),
                 (Table(("a",), (0,), (1, 0), ((1, 1), (0, 2)), 7), 3), (Table(("a",), (0,), (1, 0), steps, [0]), 4),
                 (Table(("a",), (0,), (1, 0), steps, (1, 0)), 4), (Table(("a",), (0,), (1, 0), steps, (0, 0)), 4),
                 (Table(("a",), (0,), (1, 0), steps, (GREAT,)), 4), (Table((), (), (), (), (0,)), 4),
                 (Table((), (), (), None, ()), 3))
        for value, at in wrong:
            self.fails(InvalidTable, at, need_table, value)
            self.assertIs(is_table(value), False)

    def test_any_value(self):
        self.told_for_any_value(need_table, InvalidTable)
        for value in odd_values():
            for table in (Table(value, (0,), (1, 0), PAIRS.steps, ()), Table(("a",), value, value, value, value),
                          Table(("a",), (0,), value, PAIRS.steps, ()), Table(("a",), (0,), (1, 0), value, value),
                          Table(("a",), (0,), (1, 0), (value, value), ()), Table(("a",), (value,), (value,), (), (value,)),
                          Table(("a",), (0,), (1, 0), PAIRS.steps, value), Table((value,), (0,), (1, 0), PAIRS.steps, ())):
                self.told_for_any_value(lambda _, table=table: need_table(table), InvalidTable)
                self.assertIn(is_table(table), (True, False))

    def test_states(self):
        self.assertEqual([state_of(PAIRS, ("a", ())), state_of(PAIRS, ("a", ("x",))), state_of(table=PAIRS, node=("a", ("", "x")))],
                         [0, 1, 0])
        self.assertEqual([state_of(PAIRS, ("a", (("a", ()),))), state_of(PAIRS, ("a", (("a", ()), ("a", ("",)))))], [1, 0])
        self.assertEqual([state_behind(PAIRS, 1, ()), state_behind(table=PAIRS, state=1, forest=("", ("a", ()), ""))], [1, 0])
        self.assertEqual([state_of(PAIRS, ("b", ())), state_of(PAIRS, ("a", (("b", ()),))),
                          state_behind(PAIRS, 0, ("", ("a", (("c", ()),))))], [None, None, None])
        self.assertEqual([takes(table=PAIRS, node=("a", ())), takes(PAIRS, ("a", ("",))), takes(PAIRS, ("b", ()))],
                         [True, False, False])

    def test_behind_children(self):
        """Which child comes behind which state counts: a table with unlike steps throughout."""
        table = Table(("a", "b"), (0, 1), (2, 0, 1), ((1, 2, 0), (2, 1, 1), (0, 0, 2)), (2,))
        self.assertEqual(state_behind(table, 0, (("a", ()), ("b", ("",)))), table.steps[table.steps[0][0]][0])
        self.assertEqual(state_of(table, ("b", (("b", ()), "", ("a", (("b", ()),))))),
                         table.steps[table.texts[table.steps[1][1]]][table.steps[0][1]])

    def test_tables_of_schemas(self):
        chance = seeded(61)
        nodes = all_nodes(4, ("x", "y", "z"))
        for _ in range(60):
            schema = random_schema(chance)
            names = tuple(sorted(chance.sample(("x", "y", "z"), chance.randint(0, 3))))
            table = table_of(schema=schema, names=names)
            need_table(table)
            self.assertEqual(table.names, names)
            for node in chance.sample(nodes, 60):
                if set(names_of(node)) <= set(names):
                    fits = any(kind in schema.tops for kind in types_of(schema, node))
                    self.assertIs(takes(table, node), fits, (schema_text(schema), node))
                else:
                    self.assertIsNone(state_of(table, node))

    def test_schemas_without_documents(self):
        for text in ("-", "-, a x -", "a, a x a", "b, a x -, b y (a b)"):
            for names in ((), ("x",), ("x", "y", "z")):
                table = table_of(read_schema(text), names)
                need_table(table)
                self.assertEqual(table.ends, ())

    def test_great(self):
        deep = nested(("a", ()), 29, lambda inner: ("a", (inner, "", "")))
        self.assertEqual(state_of(PAIRS, deep), 1)
        self.assertEqual(state_of(PAIRS, nested(("a", ()), 2000, lambda inner: ("a", (inner,)))), 1)
        text = "p, p x ([s -]* (r* s) r+ [# # q* p+] - s*), q y ((p?* q* - s? p) ([r+ (s q)] [p q])*), " \
               "r x [[s q s # q] #++ [s* q] [s q]?*], s y (r ((s s) r* [q p [q p+]] q+) q)*"
        table = table_of(read_schema(text), ("x", "y"))
        need_table(table)
        wide = "a, " + ", ".join([kind + " x [" + " ".join("abcdefgh") + " #]*" for kind in "abcdefgh"])
        self.assertTrue(takes(table_of(read_schema(wide), ("x",)), ("x", (("x", ("",)),) * 40)))


if __name__ == "__main__":
    unittest.main()
