"""Whether a turning leads all documents of a schema into another one, with a paper that shows it."""

from turnsfit.bearings import bearing_of, goal_table
from turnsfit.effects import is_one_taken
from turnsfit.fitting import fits
from turnsfit.errors import InvalidPlace
from turnsfit.leastgrowth import LeastGrowth
from turnsfit.leasttables import least_table
from turnsfit.markgrowth import MarkGrowth, MarkJudge
from turnsfit.nodes import is_node
from turnsfit.places import need_place, place_number
from turnsfit.refusals import bar
from turnsfit.turnings import made_document, modes_of, origins
from turnsfit.words import ascends, is_state


class Leads:
    def __init__(self, marks):
        self.marks = marks

    def __eq__(self, other):
        return isinstance(other, Leads) and self.marks == other.marks


class Breaks:
    def __init__(self, node, place):
        self.node = node
        self.place = place

    def __eq__(self, other):
        return isinstance(other, Breaks) and self.node == other.node and self.place == other.place


def verdict(turning, schema, other):
    judge = MarkJudge(turning, least_table(schema), goal_table(turning, other))
    growth = MarkGrowth(judge)
    amiss = [judge.is_amiss(mark) for mark in growth.marks]
    if not any(amiss):
        return Leads(tuple(sorted(growth.marks)))
    many = growth.many_sorts()
    sorts = [row + [many] if is_amiss else row for row, is_amiss in zip(growth.sorts, amiss)]
    node = LeastGrowth(growth.begins, growth.nexts, sorts, many + 1).nodes[many]
    return Breaks(node, _break_place(turning, other, node))


def _break_place(turning, other, node):
    """Tell the place where a document breaks that is not led into a schema."""
    made = made_document(turning, node)
    if made is None:
        return ()
    return origins(turning, node)[place_number(made, bar(other, made)[0])]


def check_verdict(turning, schema, other, value):
    goal = goal_table(turning, other)
    if isinstance(value, Breaks):
        return _is_break(turning, schema, other, goal, value)
    if not isinstance(value, Leads) or not isinstance(value.marks, tuple):
        return False
    judge = MarkJudge(turning, least_table(schema), goal)
    many = len(modes_of(turning))
    if not all([_is_mark(judge, many, mark) for mark in value.marks]) or not ascends(value.marks):
        return False
    return _is_closed(judge, value.marks) and not any([judge.is_amiss(mark) for mark in value.marks])


def _is_break(turning, schema, other, goal, value):
    """Tell whether a document and a place, any values, are those of a document that is led amiss."""
    if not is_node(value.node) or not fits(schema, value.node) or not _is_place(value.node, value.place):
        return False
    effect = bearing_of(turning, goal, (value.node,))[modes_of(turning).index(turning.mode)]
    return not is_one_taken(goal, effect) and _break_place(turning, other, value.node) == value.place


def _is_place(node, value):
    try:
        need_place(node, value)
    except InvalidPlace:
        return False
    return True


def _is_mark(judge, many, value):
    """Tell whether any value is a mark, for a turning with so many modes."""
    if not isinstance(value, tuple) or len(value) != 3:
        return False
    name, state, bearing = value
    if not isinstance(name, str) or name not in judge.least.names:
        return False
    if not is_state(state, len(judge.least.texts)) or state == judge.lost:
        return False
    return isinstance(bearing, tuple) and len(bearing) == many and all([_is_effect(judge, part) for part in bearing])


def _is_effect(judge, value):
    many = len(judge.goal.texts)
    if not isinstance(value, tuple) or len(value) != many + 3:
        return False
    if not all([is_state(number, many) for number in value[:many]]):
        return False
    return all([is_state(number, many + 3) and number >= many for number in value[many:]])


def _is_closed(judge, marks):
    """Tell whether with each mark there are those behind a text, and behind a node of each mark."""
    known = {mark: True for mark in marks}
    sorts = list({judge.child_sort(mark): True for mark in marks})
    found = [judge.begun(name) for name in judge.least.names]
    found.extend([judge.behind_text(mark) for mark in marks])
    if not all([mark is None or mark in known for mark in found]):
        return False
    for mark in marks:
        after = [judge.behind_node(mark, sort) for sort in sorts]
        if not all([other is None or other in known for other in after]):
            return False
    return True
