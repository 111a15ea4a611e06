"""Tables put together, documents that part them, and schemas of what they take."""

from turnsfit.alike import column_classes, firsts_of
from turnsfit.joined import is_within
from turnsfit.leastgrowth import TEXT, LeastGrowth
from turnsfit.leasttables import least_states
from turnsfit.nodes import least_of
from turnsfit.rowwalks import RowWalk
from turnsfit.tables import Table
from turnsfit.walkschemas import schema_of_walks
from turnsfit.words import numbered_name


class SideBySide:
    """The pairs of states that nodes have in two tables with the same names.

    A node in another one counts by its class alone: states are of one class
    that are children alike.
    """

    def __init__(self, one, other):
        self.tables = (least_states(one), least_states(other))
        self._own_classes = [column_classes(table.steps) for table in self.tables]
        self._firsts = [firsts_of(classes) for classes in self._own_classes]
        self.pairs = []
        self._known = {}
        self.sorts = []
        self._sort_numbers = {}
        self.sort_pairs = []
        self.begins = [self._number_of(pair) for pair in zip(self.tables[0].begins, self.tables[1].begins)]
        self.texts = []
        self.steps = []
        self._finish()

    def _number_of(self, pair):
        if pair not in self._known:
            self._known[pair] = len(self.pairs)
            self.pairs.append(pair)
            sort = (self._own_classes[0][pair[0]], self._own_classes[1][pair[1]])
            if sort not in self._sort_numbers:
                self._sort_numbers[sort] = len(self.sort_pairs)
                self.sort_pairs.append((self._firsts[0][sort[0]], self._firsts[1][sort[1]]))
            self.sorts.append(self._sort_numbers[sort])
        return self._known[pair]

    def _finish(self):
        """Find all pairs, and for each the one behind a text, and behind a node of each sort."""
        one, other = self.tables
        many = -1
        while many < len(self.pairs) + len(self.sort_pairs):
            many = len(self.pairs) + len(self.sort_pairs)
            known = len(self.pairs)
            for at in range(known):
                first, second = self.pairs[at]
                if at == len(self.texts):
                    self.texts.append(self._number_of((one.texts[first], other.texts[second])))
                    self.steps.append([])
                left = self.sort_pairs[len(self.steps[at]):]
                for child, other_child in left:
                    after = (one.steps[first][child], other.steps[second][other_child])
                    self.steps[at].append(self._number_of(after))

    def taken(self):
        """List for each pair whether the first and the second table take its nodes."""
        one, other = self.tables
        return [(first in one.ends, second in other.ends) for first, second in self.pairs]


def _combined(one, other, is_taken):
    """Make the least table of documents that are taken, by whether each of two tables takes them."""
    found = SideBySide(one, other)
    steps = [tuple([row[sort] for sort in found.sorts]) for row in found.steps]
    ends = tuple([at for at, pair in enumerate(found.taken()) if is_taken(pair[0], pair[1])])
    return least_states(Table(tuple(one.names), tuple(found.begins), tuple(found.texts), tuple(steps), ends))


def both_tables(one, other):
    return _combined(one, other, lambda first, second: first and second)


def either_tables(one, other):
    return _combined(one, other, lambda first, second: first or second)


def but_tables(one, other):
    return _combined(one, other, lambda first, second: first and not second)


def other_table(table):
    ends = tuple([state for state in range(len(table.texts)) if state not in table.ends])
    return least_states(Table(table.names, table.begins, table.texts, table.steps, ends))


def widened(table, names):
    # Nodes of new names have a state more; whatever they stand in has it, too.
    lost = len(table.texts)
    begins = {name: begin for name, begin in zip(table.names, table.begins)}
    steps = [tuple(step) + (lost,) for step in table.steps] + [(lost,) * (lost + 1)]
    return Table(tuple(names), tuple([begins.get(name, lost) for name in names]), tuple(table.texts) + (lost,),
                 tuple(steps), tuple(table.ends))


def parting_node(one, other):
    found = SideBySide(one, other)
    many = len(found.sort_pairs)
    after = [[(TEXT, text)] + list(enumerate(row)) for text, row in zip(found.texts, found.steps)]
    sorts = [[sort, many] if first != second else [sort]
             for sort, (first, second) in zip(found.sorts, found.taken())]
    return LeastGrowth(list(zip(one.names, found.begins)), after, sorts, many + 1).nodes[many]


def parting(schema, other):
    found = [node for node in (is_within(schema, other), is_within(other, schema)) if node is not None]
    return least_of(found) if found else None


def schema_of(table):
    least = least_states(table)
    kinds = {}
    for name, begin in zip(least.names, least.begins):
        for state in _states_from(least, begin):
            kinds[name, state] = numbered_name(len(kinds))
    by_state = [[] for _ in least.texts]
    for (_, state), kind in kinds.items():
        by_state[state].append(kind)
    begins = {name: begin for name, begin in zip(least.names, least.begins)}
    rows = [(kind, name, _walk(least, by_state, begins[name], state)) for (name, state), kind in kinds.items()]
    return schema_of_walks(rows, [kind for (_, state), kind in kinds.items() if state in least.ends])


def _states_from(table, begin):
    """List the states of nodes with a name that begin with a state."""
    found = {begin: True}
    queue = [begin]
    while queue:
        state = queue.pop()
        for other in (table.texts[state],) + table.steps[state]:
            if other not in found:
                found[other] = True
                queue.append(other)
    return sorted(found)


def _walk(table, by_state, begin, end):
    """Make the walk through the rows of types that lead from a state to another one."""
    # Walks begin at state 0, so it changes places with the first one.
    order = list(range(len(table.texts)))
    order[begin] = 0
    order[0] = begin
    nexts = []
    for state in order:
        after = [("", order[table.texts[state]])]
        for child, other in enumerate(table.steps[state]):
            after.extend([(kind, order[other]) for kind in by_state[child]])
        nexts.append(after)
    return RowWalk(nexts, [state == end for state in order])
