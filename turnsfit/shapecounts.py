"""How many shapes of each size lead to each state of a schema's table, and go on behind it."""

from turnsfit.alike import firsts_of, numbered
from turnsfit.schemas import node_names
from turnsfit.tables import table_of


class ShapeCounts:
    """Counts shapes by size and state, as far as sizes are asked.

    Only states that some document that is taken goes through are kept, and
    nodes behind which all states go on alike count together, as a sort.
    Numbers that are 0 are not kept.
    """

    def __init__(self, schema):
        table = table_of(schema, node_names(schema))
        states = _useful(table)
        numbers = {state: at for at, state in enumerate(states)}
        self.states = list(range(len(states)))
        self.begins = {name: numbers[begin] for name, begin in zip(table.names, table.begins) if begin in numbers}
        self.names = sorted(self.begins)
        self.is_end = [state in table.ends for state in states]
        self.texts = [numbers.get(table.texts[state]) for state in states]
        columns = [tuple([numbers.get(table.steps[state][child]) for state in states]) for child in states]
        self.sort_of = numbered(columns)
        self.columns = [columns[first] for first in firsts_of(self.sort_of)]
        self.steps = [[(sort, column[state]) for sort, column in enumerate(self.columns) if column[state] is not None]
                      for state in self.states]
        self.states_later = [self._states_behind(state) for state in self.states]
        self.size = 0
        self.by_state = {name: [{} for _ in states] for name in self.names}
        self.by_sort = {name: [{} for _ in self.columns] for name in self.names}
        self.all_sorts = [{} for _ in self.columns]

    def states_right_behind(self, state):
        """List the states behind one more thing."""
        found = [other for _, other in self.steps[state]]
        return found if self.texts[state] is None else found + [self.texts[state]]

    def _states_behind(self, first):
        """List the states behind one more thing or more."""
        met = {}
        waiting = self.states_right_behind(first)
        while waiting:
            state = waiting.pop()
            if state not in met:
                met[state] = True
                waiting.extend(self.states_right_behind(state))
        return sorted(met)

    def grow_to(self, size):
        """Count up to a size."""
        while self.size < size:
            self.size += 1
            for name in self.names:
                self._note(name, self._of_size(name, self.size))

    def _of_size(self, name, size):
        """Count the nodes of a size by states: with nothing in them, or with a last thing put behind smaller ones."""
        smaller = self.by_state[name]
        found = [0] * len(smaller)
        if size == 1:
            found[self.begins[name]] = 1
        for state in self.states:
            if self.texts[state] is not None:
                found[self.texts[state]] += smaller[state].get(size - 1, 0)
            for sort, other in self.steps[state]:
                found[other] += _product_at(smaller[state], self.all_sorts[sort], size)
        return found

    def _note(self, name, counts):
        for state, count in enumerate(counts):
            if count > 0:
                sort = self.sort_of[state]
                self.by_state[name][state][self.size] = count
                for known in (self.by_sort[name][sort], self.all_sorts[sort]):
                    known[self.size] = known.get(self.size, 0) + count

    def many(self, size):
        """Count the shapes of a size that are taken."""
        self.grow_to(size)
        return sum([self.by_state[name][state].get(size, 0) for name in self.names for state in self.states
                    if self.is_end[state]])


def _product_at(ones, others, size):
    """Sum up the products of what two dicts have for two sizes that make a size together."""
    fewer, more = (ones, others) if len(ones) < len(others) else (others, ones)
    return sum([count * more.get(size - own, 0) for own, count in fewer.items()])


def _useful(table):
    """List the states that some document that is taken goes through."""
    useful = {state: True for state in table.ends}
    many = -1
    while many < len(useful):
        many = len(useful)
        for state in range(len(table.texts)):
            after = [table.texts[state]] + list(table.steps[state]) + [step[state] for step in table.steps]
            if state not in useful and any([other in useful for other in after]):
                useful[state] = True
    return sorted(useful)


class OpenNode:
    """A node that is open: in how many ways what is left of a shape goes on behind each of its states."""

    def __init__(self, counts, around, state):
        self.counts = counts
        self.around = around
        self.state = state
        self.rows = [[] for _ in counts.states]
        self.inner = {}

    def closing(self, state, left):
        """Count the ways to go on when the node closes at a state, and so much is left."""
        if self.around is None:
            return 1 if left == 0 and self.counts.is_end[state] else 0
        after = self.state_around(state)
        return 0 if after is None else self.around.rows[after][left]

    def state_around(self, state):
        """Tell the state of the node around this one when this one closes at a state."""
        return self.counts.columns[self.counts.sort_of[state]][self.state]

    def prepare(self, state, most):
        """Count for all states behind a state, for all that can be left up to most."""
        # What is left gets less with each thing, so nothing is asked that is
        # not counted yet; a node within this one asks for no more than this.
        for left in range(most + 1):
            for other in self.counts.states_later[state]:
                if len(self.rows[other]) == left:
                    self.rows[other].append(self.many_from(other, left))

    def many_from(self, state, left):
        """Count the ways to go on from a state, if so much is left: all that comes behind is to be prepared."""
        found = self.closing(state, left)
        if left > 0 and self.counts.texts[state] is not None:
            found += self.rows[self.counts.texts[state]][left - 1]
        for sort, other in self.counts.steps[state]:
            found += self._with_sizes(self.counts.all_sorts[sort], other, left)
        return found

    def _with_sizes(self, sizes, other, left):
        """Count the ways to go on with one of some nodes that lead to a state, told by how many there are of a size."""
        row = self.rows[other]
        return sum([many * row[left - size] for size, many in sizes.items() if size <= left])

    def with_node(self, state, name, left):
        """Count the ways to go on with a node of a name, if so much is left with it."""
        sorts = self.counts.by_sort[name]
        return sum([self._with_sizes(sorts[sort], other, left) for sort, other in self.counts.steps[state]])

    def opened(self, state):
        """Tell the open node within this one, at one of its states."""
        if state not in self.inner:
            self.inner[state] = OpenNode(self.counts, self, state)
        return self.inner[state]
