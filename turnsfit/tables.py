"""Tables: nodes that grow thing by thing, a state behind each."""

from turnsfit.alike import firsts_of
from turnsfit.alive import trimmed
from turnsfit.errors import InvalidTable
from turnsfit.nodes import all_things
from turnsfit.nodestates import Growth
from turnsfit.stacks import taken
from turnsfit.words import are_ascending_names, are_ascending_states, are_states


class Table:
    def __init__(self, names, begins, texts, steps, ends):
        self.names = names
        self.begins = begins
        self.texts = texts
        self.steps = steps
        self.ends = ends

    def __eq__(self, other):
        return (isinstance(other, Table) and self.names == other.names and self.begins == other.begins
                and self.texts == other.texts and self.steps == other.steps and self.ends == other.ends)


def need_table(value):
    if not isinstance(value, Table):
        raise InvalidTable(-1)
    many = len(value.texts) if isinstance(value.texts, tuple) else 0
    if not are_ascending_names(value.names):
        raise InvalidTable(0)
    if not are_states(value.begins, len(value.names), many):
        raise InvalidTable(1)
    if not are_states(value.texts, many, many):
        raise InvalidTable(2)
    if not isinstance(value.steps, tuple) or len(value.steps) != many:
        raise InvalidTable(3)
    if not all([are_states(step, many, many) for step in value.steps]):
        raise InvalidTable(3)
    if not are_ascending_states(value.ends, many):
        raise InvalidTable(4)


def is_table(value):
    try:
        need_table(value)
    except InvalidTable:
        return False
    return True


def state_behind(table, state, forest):
    begins = {name: begin for name, begin in zip(table.names, table.begins)}
    things = all_things(forest)
    if not all([isinstance(thing, str) or thing[0] in begins for thing in things]):
        return None
    # Read backwards each thing comes behind all that stands in it.
    found = []
    for thing in things[::-1]:
        if isinstance(thing, str):
            found.append(None)
        else:
            found.append(_grown(table, begins[thing[0]], taken(found, len(thing[1]))))
    return _grown(table, state, found[::-1])


def _grown(table, state, children):
    """Tell the state behind things, told by their states, None for a text."""
    for child in children:
        state = table.texts[state] if child is None else table.steps[state][child]
    return state


def state_of(table, node):
    name, things = node
    if name not in table.names:
        return None
    return state_behind(table, table.begins[table.names.index(name)], things)


def takes(table, node):
    state = state_of(table, node)
    return state is not None and state in table.ends


def table_of(schema, names):
    growth = Growth(trimmed(schema))
    begins = [growth.begin(name) for name in names]
    growth.finish()
    classes = growth.classes()
    firsts = firsts_of(classes)
    texts = [classes[growth.after_text[first]] for first in firsts]
    lots = [growth.lot_of[first] for first in firsts]
    steps = [tuple([classes[growth.after_lots[first][lot]] for lot in lots]) for first in firsts]
    ends = [number for number, lot in enumerate(lots) if growth.is_top(lot)]
    return Table(tuple(names), tuple([classes[begin] for begin in begins]), tuple(texts), tuple(steps), tuple(ends))
