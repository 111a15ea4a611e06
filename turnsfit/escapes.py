"""The least document that fits one schema and not another one, found by size."""

from turnsfit.alive import trimmed
from turnsfit.leastgrowth import TEXT
from turnsfit.otherside import OtherSide
from turnsfit.rowwalks import walk_of


class Escapes:
    """Nodes that grow with a type of one schema, beside all types that another one gives them.

    A node with fewer types of the other schema can stand wherever one with
    more of them can, and what is made so is still given fewer. So whatever
    comes behind a lesser node that has no more types is left out.
    """

    def __init__(self, one, other):
        self._schema = trimmed(one)
        self._other = OtherSide(other)
        self._walks = {kind: walk_of(formula) for kind, _, formula in self._schema.types}
        self._names = {kind: name for kind, name, _ in self._schema.types}
        self._masks_at = {}
        self._readers = {kind: [] for kind in self._walks}
        self._sorts = {kind: [] for kind in self._walks}
        self._rows = []
        self._nodes = []
        self._ranks = []
        self._waiting = {}

    def least_escape(self):
        """Tell the least document of the first schema that does not fit the other one, None if there is none."""
        for kind, name in self._names.items():
            self._wait(1, (kind, 0), self._other.begin(name), ())
        while self._waiting:
            size = min(self._waiting)
            states = self._settled_states(self._waiting.pop(size))
            sorts = self._settled_sorts(size, states)
            escaping = [self._ranks[number] for kind, lot, number in sorts
                        if kind in self._schema.tops and lot & self._other.tops == 0]
            if escaping:
                return self._nodes[self._ranks.index(min(escaping))]
            for sort in sorts:
                self._read(size, sort)
            for state in states:
                self._go_on(size, state)
        return None

    def _wait(self, size, at, mask, row):
        if not self._is_needless(at, mask):
            self._waiting.setdefault(size, []).append((at, mask, row))

    def _is_needless(self, at, mask):
        return any([known & mask == known for known in self._masks_at.get(at, [])])

    def _key(self, kind, row):
        """Tell a key by which nodes of things that are ranked compare as in their order."""
        return (self._names[kind], tuple([TEXT if thing == TEXT else self._ranks[thing] for thing in row]))

    def _settled_states(self, waiting):
        """Settle what waits with one size, the first in order first: a list of what is not left out."""
        ordered = sorted([(self._key(state[0][0], state[2]), state) for state in waiting])
        found = []
        for _, (at, mask, row) in ordered:
            if not self._is_needless(at, mask):
                self._masks_at.setdefault(at, []).append(mask)
                found.append((at, mask, row))
        return found

    def _settled_sorts(self, size, states):
        """Settle the types and lots of whole nodes with states of a size: a list of those that are not left out."""
        found = []
        for (kind, at), mask, row in states:
            lot = self._other.lot(mask)
            if self._walks[kind].ends[at] and not any([known & lot == known for known, _, _ in self._sorts[kind]]):
                number = len(self._nodes)
                self._sorts[kind].append((lot, number, size))
                self._rows.append((kind, row))
                things = ["" if thing == TEXT else self._nodes[thing] for thing in row]
                self._nodes.append((self._names[kind], tuple(things)))
                found.append((kind, lot, number))
        if found:
            keys = [self._key(kind, row) for kind, row in self._rows]
            ranks = {key: rank for rank, key in enumerate(sorted(set(keys)))}
            self._ranks = [ranks[key] for key in keys]
        return found

    def _read(self, size, sort):
        """Put nodes of a sort of a size behind all that was settled with sizes ahead."""
        kind, lot, number = sort
        readers = self._readers[kind]
        for ahead, at, mask, row in readers:
            self._wait(ahead + size, at, self._other.behind(mask, lot), row + (number,))

    def _go_on(self, size, state):
        """Put all things that are known behind what was settled with a size."""
        (kind, at), mask, row = state
        ways = self._walks[kind].nexts[at]
        for letter, after in ways:
            if letter == "":
                self._wait(size + 1, (kind, after), self._other.behind(mask, TEXT), row + (TEXT,))
                continue
            self._readers[letter].append((size, (kind, after), mask, row))
            known = self._sorts[letter]
            for lot, number, more in known:
                self._wait(size + more, (kind, after), self._other.behind(mask, lot), row + (number,))
