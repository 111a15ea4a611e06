"""The least nodes that grow to states, found by size: least first by size, then by the order of nodes."""

TEXT = -1


class LeastGrowth:
    """Least nodes of sorts: a node is of a sort if its things lead to a state of this sort.

    begins: pairs (name, state) for nodes with nothing in them; after: for
    each state a list of pairs (thing, state behind it), a thing being TEXT or
    the number of a sort; sorts: for each state a list of the sorts of nodes
    with it; many: how many sorts there are.

    The least node that leads to a state is one with nothing in it, or the
    least one of some state with the least one of a sort, or a text, put
    behind: so no others need be met, and each is met by its size.
    """

    def __init__(self, begins, after, sorts, many):
        self.after = after
        self.sorts = sorts
        self.sizes = [None] * many
        self.nodes = [None] * many
        self._rows = [None] * many
        self._ranks = [None] * many
        self._grown = [None] * len(after)
        self._grown_sizes = [None] * len(after)
        self._reading = [[] for _ in range(many)]
        self._waiting = {1: [(state, (name, ())) for name, state in begins]}
        self._note_ways()
        while self._waiting:
            self._go_on(min(self._waiting))

    def _note_ways(self):
        for state, pairs in enumerate(self.after):
            for thing, other in pairs:
                if thing != TEXT:
                    self._reading[thing].append((state, other))

    def _go_on(self, size):
        """Settle all states and sorts whose least nodes have a size."""
        states = self._settled_states(self._waiting.pop(size), size)
        found = self._settled_sorts(states, size)
        for state in states:
            for thing, other in self.after[state]:
                if thing == TEXT:
                    self._wait(size + 1, state, thing, other)
                elif self.sizes[thing] is not None and self.sizes[thing] < size:
                    self._wait(size + self.sizes[thing], state, thing, other)
        for sort in found:
            for state, other in self._reading[sort]:
                if self._grown[state] is not None:
                    self._wait(self._grown_sizes[state] + size, state, sort, other)

    def _wait(self, size, state, thing, other):
        if self._grown[other] is None:
            name, row = self._grown[state]
            self._waiting.setdefault(size, []).append((other, (name, row + (thing,))))

    def _settled_states(self, waiting, size):
        """Settle the states that wait with a size: a list of those that are new."""
        found = {}
        for state, grown in waiting:
            if self._grown[state] is None and (state not in found or self._key(grown) < self._key(found[state])):
                found[state] = grown
        for state, grown in found.items():
            self._grown[state] = grown
            self._grown_sizes[state] = size
        return list(found)

    def _key(self, grown):
        """Tell a key by which nodes of things that are ranked compare as in their order."""
        name, row = grown
        return (name, tuple([TEXT if thing == TEXT else self._ranks[thing] for thing in row]))

    def _settled_sorts(self, states, size):
        """Settle the sorts of some states of a size: a list of those that are new."""
        found = {}
        for state in states:
            grown = self._grown[state]
            for sort in self.sorts[state]:
                if self.sizes[sort] is None and (sort not in found or self._key(grown) < self._key(found[sort])):
                    found[sort] = grown
        for sort, grown in found.items():
            self.sizes[sort] = size
            self._rows[sort] = grown
            self.nodes[sort] = (grown[0], tuple(["" if thing == TEXT else self.nodes[thing] for thing in grown[1]]))
        if found:
            self._rank()
        return list(found)

    def _rank(self):
        keys = {sort: self._key(row) for sort, row in enumerate(self._rows) if row is not None}
        ranks = {key: rank for rank, key in enumerate(sorted(set(list(keys.values()))))}
        for sort, key in keys.items():
            self._ranks[sort] = ranks[key]

    def least_sort(self, sorts):
        """Tell which of some sorts has the least node, None if none of them has one."""
        known = [sort for sort in sorts if self.sizes[sort] is not None]
        return min(known, key=self._least_key) if known else None

    def _least_key(self, sort):
        return (self.sizes[sort], self._ranks[sort])
