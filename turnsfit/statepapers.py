"""Papers that show that a table has no state too many, and frames that part nodes."""

from turnsfit.frames import is_frame
from turnsfit.leasttables import state_nodes
from turnsfit.nodes import is_forest, is_node
from turnsfit.tables import state_behind, state_of
from turnsfit.words import is_state

# What comes next behind two nodes, so that just one of them is taken at last:
# something put behind both, or another node in which both are put.
PUT = "put"
INTO = "into"


def state_through(table, state, frame):
    for name, ahead, after in frame[::-1]:
        if name not in table.names:
            return None
        begun = state_behind(table, table.begins[table.names.index(name)], ahead)
        if state is None or begun is None:
            return None
        state = state_behind(table, table.steps[begun][state], after)
    return state


def check_states(table, value):
    if not isinstance(value, tuple) or len(value) != 2:
        return False
    many = len(table.texts)
    nodes, parts = value
    if not isinstance(nodes, tuple) or len(nodes) != many or not isinstance(parts, tuple):
        return False
    if not all([is_node(node) and state_of(table, node) == state for state, node in enumerate(nodes)]):
        return False
    if not all([_is_part(table, part) and _parts(table, part) for part in parts]):
        return False
    found = {(min(part[0], part[1]), max(part[0], part[1])): True for part in parts}
    return len(found) == many * (many - 1) // 2


def _is_part(table, value):
    """Tell whether any value is two states, a forest and a frame."""
    if not isinstance(value, tuple) or len(value) != 4:
        return False
    if not all([is_state(state, len(table.texts)) for state in value[:2]]):
        return False
    return is_forest(value[2]) and is_frame(value[3])


def _parts(table, part):
    one, other, forest, frame = part
    ends = [state_through(table, state_behind(table, state, forest), frame) for state in (one, other)]
    return (ends[0] in table.ends) != (ends[1] in table.ends)


def state_paper(table):
    nodes = state_nodes(table)
    if not all([node is not None for node in nodes]):
        return None
    partings = Partings(table, nodes)
    parts = []
    for one in range(len(nodes)):
        for other in range(one + 1, len(nodes)):
            if not partings.are_parted(one, other):
                return None
            parts.append((one, other) + partings.rest_around(one, other))
    return (nodes, tuple(parts))


class Partings:
    """For two states of nodes, what is to come behind and around them so that just one node is taken."""

    def __init__(self, table, nodes):
        self.table = table
        self.nodes = nodes
        self.known = [state for state, node in enumerate(nodes) if node is not None]
        is_end = [state in table.ends for state in range(len(nodes))]
        pairs = [(one, other) for one in self.known for other in self.known if one < other]
        self.coming = {pair: None for pair in pairs if is_end[pair[0]] != is_end[pair[1]]}
        left = [pair for pair in pairs if pair not in self.coming]
        many = -1
        while many < len(self.coming):
            many = len(self.coming)
            # All that is found in one round comes by those of rounds ahead: so what is to come is as short as can be.
            found = {pair: self._step(pair) for pair in left}
            left = [pair for pair in left if found[pair] is None]
            for pair, step in found.items():
                if step is not None:
                    self.coming[pair] = step

    def are_parted(self, one, other):
        return one != other and (min(one, other), max(one, other)) in self.coming

    def _step(self, pair):
        """Tell one thing to come behind which two states are parted already, None if there is none."""
        one, other = pair
        texts = self.table.texts
        if self.are_parted(texts[one], texts[other]):
            return (PUT, None)
        steps = self.table.steps
        for state in self.known:
            if self.are_parted(steps[one][state], steps[other][state]):
                return (PUT, state)
        return self.step_into(one, other)

    def step_into(self, one, other):
        """Tell the step of putting two states into a node by which they are parted, None if there is none."""
        for state, step in enumerate(self.table.steps):
            if self.nodes[state] is not None and self.are_parted(step[one], step[other]):
                return (INTO, state)
        return None

    def rest_around(self, one, other):
        """Tell a forest to be put behind two states, and the frame in which just one is taken then."""
        rows = [[]]
        frame = []
        step = self.coming[min(one, other), max(one, other)]
        while step is not None:
            one, other = self._behind(one, step), self._behind(other, step)
            if step[0] == INTO:
                frame.append(self.nodes[step[1]])
                rows.append([])
            else:
                rows[-1].append("" if step[1] is None else self.nodes[step[1]])
            step = self.coming[min(one, other), max(one, other)]
        triples = [(node[0], node[1], tuple(row)) for node, row in zip(frame, rows[1:])]
        return (tuple(rows[0]), tuple(triples[::-1]))

    def _behind(self, state, step):
        if step[0] == INTO:
            return self.table.steps[step[1]][state]
        return self.table.texts[state] if step[1] is None else self.table.steps[state][step[1]]


def parting_frame(table, node, other):
    first = state_of(table, node)
    second = state_of(table, other)
    if (first in table.ends) != (second in table.ends):
        return ()
    partings = Partings(table, state_nodes(table))
    step = partings.step_into(first, second)
    if step is None:
        return None
    name, things = partings.nodes[step[1]]
    row, frame = partings.rest_around(table.steps[step[1]][first], table.steps[step[1]][second])
    return frame + ((name, things, row),)
