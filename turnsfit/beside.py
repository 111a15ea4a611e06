"""Nodes that grow with a type of one schema, beside all types that another schema gives them."""

from turnsfit.alike import numbered
from turnsfit.alive import trimmed
from turnsfit.leastgrowth import TEXT
from turnsfit.otherside import OtherSide
from turnsfit.rowwalks import RowWalk, walk_of


class Beside:
    """States and sorts of nodes that stand in documents of the first schema.

    A state tells a type of the first schema, how far the row of its formula
    is read, and the state of the node in the other one. A sort tells a type
    and a lot of the other schema; nodes in others count by their sorts.
    """

    def __init__(self, one, other):
        self._schema = trimmed(one)
        self._other = OtherSide(other)
        self._walks = {kind: walk_of(formula) for kind, _, formula in self._schema.types}
        self._known = {}
        self._states = []
        self._looked_at = []
        self._sort_numbers = {}
        self.told = []
        self._nexts = []
        self._sorts = []
        for kind, name, _ in self._schema.types:
            self._number_of((kind, 0, self._other.begin(name)))
        self._finish()

    def _number_of(self, state):
        if state not in self._known:
            self._known[state] = len(self._states)
            self._states.append(state)
            self._looked_at.append(None)
            self._nexts.append([])
            self._sorts.append(self._sorts_of(state))
        return self._known[state]

    def _sorts_of(self, state):
        kind, at, grown = state
        if not self._walks[kind].ends[at]:
            return []
        sort = (kind, self._other.lot(grown))
        if sort not in self._sort_numbers:
            self._sort_numbers[sort] = len(self.told)
            self.told.append(sort)
        return [self._sort_numbers[sort]]

    def _finish(self):
        """Find all states, and for each of them those behind a text, and behind a node of each sort."""
        many = -1
        while many < len(self._states) + len(self.told):
            many = len(self._states) + len(self.told)
            known = len(self._states)
            for number in range(known):
                self._go_on(number)

    def _go_on(self, number):
        kind, at, _ = self._states[number]
        ways = self._walks[kind].nexts[at]
        if self._looked_at[number] is None:
            self._looked_at[number] = 0
            self._note_behind(number, TEXT, [(kind, after, TEXT) for letter, after in ways if letter == ""])
        first = self._looked_at[number]
        self._looked_at[number] = len(self.told)
        left = self.told[first:]
        for sort, (other, lot) in enumerate(left):
            found = [(kind, after, lot) for letter, after in ways if letter == other]
            self._note_behind(number, first + sort, found)

    def _note_behind(self, number, thing, found):
        """Note for a state which come behind a thing: triples of a type, how far its row is read, and a lot."""
        grown = self._states[number][2]
        for kind, at, lot in found:
            self._nexts[number].append((thing, self._number_of((kind, at, self._other.behind(grown, lot)))))

    def escaping(self):
        """List the sorts of documents of the first schema that do not fit the other one."""
        return [sort for sort, (kind, lot) in enumerate(self.told)
                if kind in self._schema.tops and lot & self._other.tops == 0]

    def sort_classes(self):
        """List a class for each sort: sorts of one class are of one type, escape alike, and are alike as children."""
        escaping = {sort: True for sort in self.escaping()}
        sorts = numbered([(kind, at in escaping) for at, (kind, _) in enumerate(self.told)])
        states = numbered([state[0] for state in self._states])
        many = -1
        while many < len(set(sorts)) + len(set(states)):
            many = len(set(sorts)) + len(set(states))
            own = [sorts[row[0]] if row else None for row in self._sorts]
            after = [tuple(sorted({(TEXT if thing == TEXT else sorts[thing], states[other]) for thing, other in pairs}))
                     for pairs in self._nexts]
            sorts = self._parted_sorts(sorts, states)
            states = numbered(list(zip(states, own, after)))
        return sorts

    def _parted_sorts(self, sorts, states):
        """List classes of sorts, such that behind those of one class each state goes on to the same classes."""
        found = [[] for _ in sorts]
        for state, pairs in enumerate(self._nexts):
            for thing, other in pairs:
                if thing != TEXT:
                    found[thing].append((state, states[other]))
        return numbered([(own, tuple(sorted(set(pairs)))) for own, pairs in zip(sorts, found)])

    def walk_through(self, chosen, letters):
        """Make the walk through the rows of things in nodes of some sorts of one type, each sort having a letter."""
        kind = self.told[chosen[0]][0]
        order = [number for number, state in enumerate(self._states) if state[0] == kind]
        numbers = {number: at for at, number in enumerate(order)}
        nexts = [[("" if thing == TEXT else letters[thing], numbers[other]) for thing, other in self._nexts[number]]
                 for number in order]
        return RowWalk(nexts, [any([sort in chosen for sort in self._sorts[number]]) for number in order])
