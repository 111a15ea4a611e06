"""Tables of the fewest states, and the least nodes of states."""

from turnsfit.alike import firsts_of, parted
from turnsfit.leastgrowth import TEXT, LeastGrowth
from turnsfit.schemas import node_names
from turnsfit.tables import Table, table_of


def least_states(table):
    return _in_order_met(_put_together(_in_order_met(table)))


def least_table(schema):
    return least_states(table_of(schema, node_names(schema)))


def _in_order_met(table):
    """Make the table with just the states of nodes, numbered as they are met."""
    numbers = {}
    order = []
    for state in table.begins:
        _meet(numbers, order, state)
    at = 0
    while at < len(order):
        state = order[at]
        _meet(numbers, order, table.texts[state])
        for other in order[:at + 1]:
            _meet(numbers, order, table.steps[other][state])
            _meet(numbers, order, table.steps[state][other])
        at += 1
    begins = tuple([numbers[state] for state in table.begins])
    texts = tuple([numbers[table.texts[state]] for state in order])
    steps = tuple([tuple([numbers[table.steps[state][child]] for child in order]) for state in order])
    ends = tuple(sorted([numbers[state] for state in table.ends if state in numbers]))
    return Table(tuple(table.names), begins, texts, steps, ends)


def _meet(numbers, order, state):
    if state not in numbers:
        numbers[state] = len(order)
        order.append(state)


def _put_together(table):
    """Put states together that are alike, as nodes that grow and as nodes in others."""
    is_end = {state: True for state in table.ends}
    many = len(table.texts)
    nexts = [[table.texts[state]] + list(table.steps[state]) + [step[state] for step in table.steps]
             for state in range(many)]
    classes = parted([state in is_end for state in range(many)], nexts)
    firsts = firsts_of(classes)
    begins = tuple([classes[state] for state in table.begins])
    texts = tuple([classes[table.texts[first]] for first in firsts])
    steps = tuple([tuple([classes[table.steps[first][other]] for other in firsts]) for first in firsts])
    ends = tuple([number for number, first in enumerate(firsts) if first in is_end])
    return Table(table.names, begins, texts, steps, ends)


def state_nodes(table):
    many = len(table.texts)
    begins = list(zip(table.names, table.begins))
    after = [[(TEXT, table.texts[state])] + list(enumerate(table.steps[state])) for state in range(many)]
    return tuple(LeastGrowth(begins, after, [[state] for state in range(many)], many).nodes)
