"""Points 1 to 3 and the interface: names, arguments, kinds of values, and what may be kept."""

import ast
import copy
import importlib
import inspect
import pathlib
import unittest

from tests.helping import Case, nested
from turnsfit import (alive, askings, asks, audit, backwards, bearings, chains, commands, composed, costs, counting, desk,
                      doubled, edits, effects, exchanges, facts, fitting, formulas, frames, goingon, growth, house, houseruns,
                      joined, judged, leastnodes, leasttables, lots, marks, mended, merging, nodes, places, pointed, refusals,
                      rowmends, rowsums, rowtables, schemas, sheets, spots, statepapers, swaps, tables, tablesums, turnings,
                      walks, wanting, ways)
from turnsfit.formulatext import read_formula
from turnsfit.schematext import read_schema
from turnsfit.turningtext import read_turning

INTERFACE = {
    "words": "is_number(value) is_name(value) is_text(value)",
    "nodes": "need_node(value) need_thing(value) need_forest(value) is_node(value) is_forest(value) forest_size(forest)"
             " size_of(thing) depth_of(thing) names_of(thing) shape_of(thing) compared(one,other) least_of(things)",
    "places": "need_place(node,value) at_place(node,place) places_of(node) node_places(node) place_number(node,place)"
              " place_at(node,number) replaced(node,place,thing)",
    "nodetext": "thing_text(thing) forest_text(forest) read_node(value) read_forest(value)",
    "formulas": "need_formula(value) is_formula(value) parts_of(formula) letters_of(formula) spells(formula,row)"
                " spells_none(formula) filled(formula,pairs)",
    "schemas": "Schema(types,tops) need_schema(value) is_schema(value) kinds_of(schema) name_for(schema,kind)"
               " formula_for(schema,kind) kinds_named(schema,name) node_names(schema)",
    "marks": "marks_of(node) need_marks(value) is_beginning(value) node_of(marks) place_behind(marks)",
    "turnings": "Turning(rules,mode) need_turning(value) is_turning(value) goes_of(parts) modes_of(turning)"
                " rule_for(turning,mode,letter) made_by(turning,parts,things) turned_forest(turning,mode,forest)"
                " turned(turning,node) made_document(turning,node) made_size(turning,node) origins(turning,node)",
    "edits": "need_edit(node,value) is_edit(node,value) done(node,edit) undoing(node,edit) all_done(node,edits)"
             " undoing_all(node,edits) edits_between(one,other)",
    "alive": "lessened(formula,letters) order_paper(schema) alive_types(schema) is_empty(schema)"
             " check_order(schema,value) check_dead(schema,value) trimmed(schema)",
    "around": "said_parts(forest) parts_around(turning,node,place)",
    "composed": "composed(one,other) composed_all(turnings) keeping(names) lean(turning)",
    "formulatext": "formula_text(formula) read_formula(text)",
    "schematext": "schema_text(schema) read_schema(text)",
    "turningtext": "turning_text(turning) read_turning(text)",
    "spots": "spots(formula) first_spots(formula) last_spots(formula) next_spots(formula) trace(formula,row)"
             " check_trace(formula,row,value) clash(formula) is_plain(formula)",
    "rowtables": "RowTable(letters,nexts,ends) need_row_table(value) is_row_table(value) behind(table,state,row)"
                 " accepts(table,row) least_rows(table) rows_table(formula,letters) parting_row(one,other)"
                 " within(one,other) least_paper(table) check_least(table,value)",
    "tables": "Table(names,begins,texts,steps,ends) need_table(value) is_table(value) state_behind(table,state,forest)"
              " state_of(table,node) takes(table,node) table_of(schema,names)",
    "frames": "is_frame(value) frame_at(node,place) framed(frame,thing) frame_place(frame)",
    "growth": "fruit(turning,mode) uses(turning,node,place) growing(turning) check_growing(turning,value)"
              " most_uses(turning) size_factor(turning) burst(turning,times)",
    "merging": "moved(place,edit) edit_behind(edit,other) do_clash(one,other) first_clash(ones,others)"
               " both_ways(ones,others) merged(node,ones,others)",
    "rowmends": "row_prices(table,drops,puts,keeps) row_cost(table,drops,puts,keeps) row_steps(table,drops,puts,keeps)"
                " check_prices(table,drops,puts,keeps,value)",
    "fitting": "check_giving(schema,node,value) check_typing(schema,node,value) chosen_row(formula,lots)"
               " types_over(schema,name,lots) lot_of_thing(schema,thing) types_of(schema,node) fits(schema,node)"
               " giving_of(schema,node,kind) typings_of(schema,node,most) typing_of(schema,node)",
    "leasttables": "least_states(table) least_table(schema) state_nodes(table)",
    "streaming": "Reader(schema)",
    "effects": "both_effects(one,other) effect_of(table,forest) is_one_taken(table,effect)",
    "bearings": "made_names(turning) goal_table(turning,schema) no_bearing(turning,table) text_bearing(turning,table)"
                " node_bearing(turning,table,name,bearing) both_bearings(one,other) bearing_of(turning,table,forest)",
    "doubled": "two_typings(schema) single_paper(schema) check_single(schema,value)",
    "rowsums": "both_rows(one,other) either_rows(one,other) but_rows(one,other) other_rows(table) rest_rows(table,row)"
               " formula_of(table) many_rows(table,length) longest(table) row_at(table,number) number_of(table,row)"
               " many_choices(table,lots) choice(table,lots)",
    "refusals": "refusal(schema,node) check_refusal(schema,node,value) bar(schema,node)",
    "goingon": "first_bar(schema,marks) next_marks(schema,marks) going_on(schema,marks)",
    "leastnodes": "least_node(schema,kind) least_document(schema) sizes_paper(schema) check_sizes(schema,value)"
                  " largest(schema)",
    "counting": "many_of_size(schema,size) node_at(schema,number) shape_number(schema,node) shapes_of(schema,size)"
                " many_typings(schema,node)",
    "lots": "lots_of(schema,node) wanted_of(schema,node) welcome(schema,node,place,at) would_fit(schema,node,edit)",
    "kept": "Kept(schema,node)",
    "costs": "edit_cost(node,edit) edits_cost(node,edits) check_mend(schema,node,value) mend_cost(schema,node,mend)"
             " mend_made(schema,node,mend) mend_edits(schema,node,mend)",
    "mended": "node_costs(schema,node) distance(schema,node) least_mend(schema,node) mended(schema,node)"
              " low_paper(schema,node) check_low(schema,node,value,cost) kept_places(schema,node)"
              " sure_places(schema,node)",
    "facts": "facts_of(sheet) all_facts(facts) told_by(facts,word,question)",
    "statepapers": "state_through(table,state,frame) state_paper(table) check_states(table,value)"
                   " parting_frame(table,node,other)",
    "swaps": "moves(table,row) all_moves(table) surroundings(table,one,other) returns(table,row)",
    "tablesums": "widened(table,names) both_tables(one,other) either_tables(one,other) but_tables(one,other)"
                 " other_table(table) parting_node(one,other) parting(schema,other) schema_of(table)",
    "joined": "either_of(one,other) both_of(one,other) but_not(one,other) all_but(schema,names) is_within(one,other)",
    "backwards": "led_table(turning,schema,names) led_into(turning,schema,names) one_made(turning,names)",
    "judged": "Leads(marks) Breaks(node,place) verdict(turning,schema,other) check_verdict(turning,schema,other,value)",
    "house": "House()",
    "chains": "made_along(turnings,node) first_break(turnings,schemas)",
    "commands": "call_line(call) read_call(value)",
    "houseruns": "run(calls) parts_of_link(house,name) house_paper(house) check_house_paper(house,value)",
    "walks": "from_below(schema,node) from_both(schema,node) answers(ask,node)",
    "asks": "Ask(schema,marked) need_ask(value) answers_by(ask,value) check_answer(ask,node,place,value)"
            " answer_paper(ask,node,place)",
    "wanting": "wanted_letters(schema,frame) letter_apart(schema,thing,other)",
    "ways": "way_of(node,place) rivals(schema) is_plain_schema(schema) types_by_way(schema,way) plain_hull(schema)",
    "exchanges": "exchanged(node,place,other,where) plain_or_exchange(schema) check_exchange(schema,value)",
    "desk": "Desk() run_lines(lines)",
    "pointed": "pointed_node(node,place,name) unpointed(node,name) pointed(ask,name) answered(ask)"
               " answer_beyond(one,other) unanswered(ask) is_idle(ask)",
    "askings": "either_ask(one,other) both_ask(one,other)",
    "sheets": "sheet_holds(value)",
    "audit": "audit(record)",
    "errors": "FitError InvalidNode(at) InvalidPlace(at) InvalidFormula(at) InvalidSchema(at) InvalidTable(at)"
              " InvalidTurning(at) InvalidEdit(at) InvalidAsk(at) InvalidText(at) InvalidSize(word) InvalidCommand"
              " Refused(word) NoName(name)",
}
METHODS = {("streaming", "Reader"): "read(mark) types_now() twin()",
           ("kept", "Kept"): "node_now() do(edit) undo() redo() edits_now() lots_now() wanted_now() fits() bars()"
                             " can(edit) twin()",
           ("house", "House"): "do(call) why_now() names_now(sort) thing_now(name) made_now(link,document) calls()"
                               " depth() twin()",
           ("desk", "Desk"): "say(line) said() record()"}
FOLDER = pathlib.Path(__file__).resolve().parent.parent / "turnsfit"
NODE = ("doc", ("hi", ("b", ())))
FORMULA = read_formula("([a b]* # c?)")
SCHEMA = read_schema("a, a x b*, b y [# c], c y (c)")
TURNING = read_turning('a, a # *, a doc list(!b), b b item(!a) "s"')
TABLE = tables.table_of(SCHEMA, ("x", "y"))
ROWS = rowtables.rows_table(FORMULA, ("", "a", "b", "c"))
LEAST = leasttables.least_table(SCHEMA)
OTHER = read_schema("a, a x b+, b y #")
KEEPING = composed.keeping(["x", "y"])
ASK, FITTING = asks.Ask(SCHEMA, ("b",)), ("x", (("y", ("",)),))
HOUSE = house.House()
HOUSE.do(("batch", (("schema", "s", OTHER.types, OTHER.tops), ("turning", "t", KEEPING.rules, KEEPING.mode), ("link", "link", "t", "s", "s"))))
CALLS = (
    (nodes.size_of, NODE), (nodes.shape_of, NODE), (nodes.least_of, [NODE, "x"]), (places.places_of, NODE),
    (places.replaced, NODE, (1,), "x"), (formulas.letters_of, FORMULA), (formulas.filled, FORMULA, [["a", ("text",)]]),
    (formulas.spells, FORMULA, ["a", ""]), (spots.trace, FORMULA, ["a", ""]), (spots.next_spots, FORMULA),
    (spots.clash, read_formula("(a* a)")), (spots.check_trace, FORMULA, ["a", ""], (0, 2)),
    (rowtables.least_paper, ROWS), (rowtables.behind, ROWS, 0, ["a"]), (rowtables.accepts, ROWS, [""]),
    (tables.state_behind, TABLE, 0, ("",)), (schemas.kinds_of, SCHEMA), (marks.marks_of, NODE),
    (marks.place_behind, [("open", "a")]), (alive.lessened, FORMULA, ["a"]), (alive.order_paper, SCHEMA),
    (turnings.turned, TURNING, NODE), (turnings.origins, TURNING, NODE), (turnings.modes_of, TURNING),
    (edits.undoing_all, NODE, [("drop", (), 0)]), (edits.edits_between, NODE, ("a", ())),
    (edits.all_done, NODE, [("drop", (), 0), ("name", (), "a")]),
    (frames.frame_at, NODE, (1,)), (frames.frame_place, (("a", ("",), ()),)), (frames.framed, (("a", ("",), ()),), "x"),
    (fitting.chosen_row, FORMULA, [["a", "b"], ("",)]), (fitting.types_over, SCHEMA, "y", [["", "b"]]),
    (fitting.types_of, SCHEMA, ("y", ("",))), (fitting.typings_of, SCHEMA, ("x", (("y", ("",)),)), 5),
    (doubled.two_typings, read_schema("a, a x [b c], b y -, c y -")), (doubled.single_paper, SCHEMA),
    (leasttables.state_nodes, TABLE), (effects.effect_of, TABLE, ("",)), (effects.both_effects, [1, 0, 1], [0, 1, 2]),
    (bearings.made_names, TURNING), (bearings.both_bearings, [[1, 0, 1]], [[0, 1, 2]]), (growth.fruit, TURNING, "b"),
    (bearings.bearing_of, TURNING, tables.table_of(SCHEMA, ("item", "list")), NODE[1]), (growth.growing, read_turning("a, a # *, a x !a !a")),
    (growth.burst, read_turning("a, a # *, a x !a !a"), 3), (merging.moved, (1,), ("drop", (), 0)),
    (merging.both_ways, [("drop", (), 0)], [("name", (1,), "c")]), (merging.merged, NODE, [("drop", (), 0)], [("name", (1,), "c")]),
    (rowmends.row_prices, ROWS, [1, 2], [1, 1, None, 2], [[0, None, None, None], [None, 0, 0, 0]]),
    (rowsums.choice, ROWS, [["", "a"], ("",)]), (rowsums.many_choices, ROWS, [["", "a"], ("",)]), (rowsums.formula_of, ROWS),
    (rowsums.number_of, ROWS, ["a", ""]), (rowsums.row_at, ROWS, 3), (refusals.refusal, SCHEMA, NODE), (refusals.bar, SCHEMA, NODE),
    (goingon.next_marks, SCHEMA, [("open", "x")]), (goingon.going_on, SCHEMA, [("open", "x"), ("open", "y")]),
    (goingon.first_bar, SCHEMA, [("open", "x"), ("text", "")]), (leastnodes.least_document, SCHEMA), (leastnodes.sizes_paper, SCHEMA),
    (counting.shapes_of, SCHEMA, 3), (counting.node_at, SCHEMA, 2), (counting.many_typings, SCHEMA, ("x", (("y", ("",)),))),
    (lots.lots_of, SCHEMA, NODE), (lots.wanted_of, SCHEMA, ("x", (("y", ("",)),))), (lots.welcome, SCHEMA, ("x", ()), (), 0),
    (costs.edits_cost, NODE, [("drop", (), 0), ("name", (), "a")]), (costs.mend_edits, SCHEMA, NODE, ("a", (("drop",), ("drop",)))),
    (costs.mend_made, SCHEMA, NODE, ("a", (("drop",), ("drop",), ("put", "b")))), (mended.node_costs, SCHEMA, NODE),
    (mended.least_mend, SCHEMA, NODE), (mended.mended, SCHEMA, NODE), (mended.low_paper, SCHEMA, NODE),
    (mended.kept_places, SCHEMA, NODE), (mended.sure_places, SCHEMA, NODE), (facts.facts_of, ("alive", SCHEMA, ("a",))),
    (rowmends.row_steps, ROWS, [1, 2], [1, 1, None, 2], [[0, None, None, None], [None, 0, 0, 0]]),
    (swaps.moves, ROWS, ["a", ""]), (swaps.all_moves, rowtables.rows_table(("text",), [""])), (swaps.returns, ROWS, ["a", ""]),
    (swaps.surroundings, ROWS, ["a"], [""]), (statepapers.state_paper, LEAST), (statepapers.parting_frame, LEAST, ("y", ()), ("x", ())),
    (statepapers.state_through, LEAST, 0, (("x", (), ("",)),)), (tablesums.parting_node, LEAST, tablesums.other_table(LEAST)),
    (tablesums.parting, SCHEMA, OTHER), (joined.is_within, SCHEMA, OTHER), (chains.made_along, [KEEPING, KEEPING], ("x", ("a",))),
    (commands.call_line, ("batch", (("drop", "a"),))), (commands.read_call, "all drop a; edit b drop 0.1 0"),
    (walks.answers, ASK, FITTING), (walks.from_both, SCHEMA, FITTING),
    (walks.from_below, SCHEMA, NODE), (asks.answers_by, ASK, ("a", (("b", ("",)),))), (asks.answer_paper, ASK, FITTING, (0,)),
    (wanting.wanted_letters, SCHEMA, (("x", (), ()),)), (ways.way_of, NODE, (1,)), (ways.types_by_way, SCHEMA, ["x", "y"]),
    (ways.rivals, SCHEMA), (exchanges.exchanged, NODE, (1,), FITTING, ()), (pointed.pointed_node, NODE, (1,), "here"),
    (pointed.unpointed, ("x", (("y", ()), "a")), "y"), (pointed.answer_beyond, ASK, asks.Ask(SCHEMA, ("c",))),
    (pointed.unanswered, ASK), (desk.run_lines, ["schema s a, a x -", "empty s", "calls"]),
    (audit.audit, (("schema s a, a x -", ("did", "done"), ()),)), (sheets.sheet_holds, ("alive", SCHEMA, ("b",))))


def attributes(value):
    return vars(value) if hasattr(value, "__dict__") and not inspect.isfunction(value) else value


def has_list(value):
    if isinstance(value, (tuple, list)):
        return isinstance(value, list) or any(has_list(part) for part in value)
    return False


class BasicsTest(Case):
    def test_interface(self):
        for module, text in INTERFACE.items():
            told = importlib.import_module("turnsfit." + module)
            tree = ast.parse((FOLDER / (module + ".py")).read_text())
            defined = {node.name for node in tree.body if isinstance(node, (ast.FunctionDef, ast.ClassDef))}
            for entry in text.split():
                name, _, rest = entry.partition("(")
                self.assertIn(name, defined, module)
                if rest:
                    parameters = list(inspect.signature(getattr(told, name)).parameters.values())
                    self.assertEqual([one.name for one in parameters], [one for one in rest.rstrip(")").split(",") if one], (module, name))
                    for one in parameters:
                        self.assertEqual((one.kind, one.default), (one.POSITIONAL_OR_KEYWORD, one.empty), (module, name))

    def test_methods(self):
        for (module, name), text in METHODS.items():
            told = vars(getattr(importlib.import_module("turnsfit." + module), name))
            for entry in text.split():
                method, _, rest = entry.partition("(")
                parameters = [one for one in ["self"] + rest.rstrip(")").split(",") if one]
                self.assertEqual(list(inspect.signature(told[method]).parameters), parameters, (name, method))

    def test_lists_or_tuples_by_position_or_by_name(self):
        for function, *arguments in CALLS:
            result = function(*arguments)
            names = list(inspect.signature(function).parameters)
            self.assertEqual(function(**dict(zip(names, arguments))), result)
            as_tuples = [tuple(one) if isinstance(one, list) else one for one in arguments]
            self.assertEqual(function(*as_tuples), result)
            self.assertEqual(function(*arguments), result)

    def test_arguments_stay_and_results_are_tuples(self):
        for function, *arguments in CALLS:
            before = copy.deepcopy([attributes(one) for one in arguments])
            self.assertFalse(has_list(function(*arguments)), function)
            self.assertEqual([attributes(one) for one in arguments], before)

    def test_objects_made_hold_tuples(self):
        made = houseruns.parts_of_link(HOUSE, "link") + (TABLE, ROWS, SCHEMA, TURNING, composed.composed(TURNING, TURNING), composed.keeping(["a"]),
                composed.lean(TURNING), alive.trimmed(SCHEMA), rowtables.least_rows(ROWS),
                rowtables.rows_table(("text",), ["", "a"]), tables.table_of(SCHEMA, ["x"]),
                leasttables.least_states(tables.Table(["x"], [0], [0], [[0]], [0])), leasttables.least_table(SCHEMA),
                bearings.goal_table(TURNING, SCHEMA), rowsums.both_rows(ROWS, ROWS), rowsums.other_rows(ROWS),
                rowsums.rest_rows(rowtables.RowTable(["a"], [[0]], [0]), ["a"]), tablesums.widened(LEAST, ["w", "x", "y"]),
                tablesums.both_tables(LEAST, LEAST), tablesums.other_table(LEAST), tablesums.schema_of(LEAST),
                joined.either_of(SCHEMA, OTHER), joined.both_of(SCHEMA, OTHER), joined.but_not(SCHEMA, OTHER),
                joined.all_but(SCHEMA, ["x", "y"]), backwards.led_table(KEEPING, OTHER, ["x"]), backwards.led_into(KEEPING, OTHER, ["x"]),
                backwards.one_made(KEEPING, ["x"]), ways.plain_hull(SCHEMA), exchanges.plain_or_exchange(SCHEMA)[1],
                pointed.pointed(ASK, "here"), pointed.answered(ASK), askings.either_ask(ASK, ASK), askings.both_ask(ASK, ASK), judged.verdict(KEEPING, OTHER, OTHER), judged.verdict(KEEPING, SCHEMA, OTHER))
        for one in made:
            for value in vars(one).values():
                self.assertFalse(has_list(value))
            with self.assertRaises(TypeError):
                iter(one)
            with self.assertRaises(TypeError):
                len(one)

    def test_later_changes_have_no_effect(self):
        pairs = [["a", ("text",)]]
        made = formulas.filled(FORMULA, pairs)
        letters = ["", "a", "b", "c"]
        table = rowtables.rows_table(FORMULA, letters)
        names = ["b", "a"]
        turning = composed.keeping(names)
        pairs[0][1] = ("empty",)
        letters.clear()
        names.append("c")
        self.assertEqual(made, read_formula("([# b]* # c?)"))
        self.assertTrue(table == ROWS)
        self.assertEqual([rule[1] for rule in turning.rules], ["", "a", "b"])

    def test_no_bool_is_a_number(self):
        """True after 1, and 1 after True: nothing that was told before is told for the other."""
        for _ in range(2):
            self.assertEqual([places.at_place(NODE, (1,)), edits.is_edit(NODE, ("drop", (), 1)),
                              edits.is_edit(NODE, ("drop", (), True))], [("b", ()), True, False])
            self.assertEqual([spots.check_trace(("one", "a"), ("a",), (0,)), spots.check_trace(("one", "a"), ("a",), (False,))],
                             [True, False])

    def test_nothing_is_told_where_nothing_is_described(self):
        for result in (nodes.need_node(NODE), nodes.need_forest(()), nodes.need_thing(""), places.need_place(NODE, ()),
                       formulas.need_formula(FORMULA), rowtables.need_row_table(ROWS), tables.need_table(TABLE),
                       schemas.need_schema(SCHEMA), turnings.need_turning(TURNING), marks.need_marks(marks.marks_of(NODE)),
                       edits.need_edit(NODE, ("drop", (), 0))):
            self.assertIsNone(result)

    def test_somewhat_beyond_the_limits(self):
        deep = nested(("a", ()), 400, lambda inner: ("a", (inner,)))
        self.assertEqual(turnings.made_size(composed.keeping(("a",)), deep), 401)
        self.assertEqual(marks.node_of(marks.marks_of(deep)), deep)
        self.assertEqual(edits.done(deep, ("put", (0,) * 400, 0, "x")), places.replaced(deep, (0,) * 400, ("a", ("x",))))


if __name__ == "__main__":
    unittest.main()
