"""Two rows read side by side, whose letters go together place by place."""

from turnsfit.leastgrowth import TEXT
from turnsfit.spotmasks import FewSpots, bits_of


def _pair_of(one, other):
    return (one, other) if one <= other else (other, one)


def can_go_together(one, other, pairs):
    """Tell whether two formulas, told by masks, spell rows whose letters go together, by a dict of pairs of types."""
    meets = _meets(one, other, pairs)
    reached = _walk(one, other, [(letters, 0, 0) for letters in meets])
    return _is_end_met(one, other, reached, 0)


def can_go_twice(masks, pairs, twice):
    """Tell whether a formula spells two rows whose letters go together, unlike or of a type of a dict somewhere."""
    meets = _meets(masks, masks, pairs)
    moves = [(letters, flag, flag) for letters in meets for flag in (0, 1)]
    moves.extend([(letters, 0, 1) for letters in meets if letters[0] != letters[1] or letters[0] in twice])
    return _is_end_met(masks, masks, _walk(masks, masks, moves), 1)


def _meets(one, other, pairs):
    """List the pairs of letters of two formulas that go together."""
    return [(first, second) for first in one.by_letter for second in other.by_letter
            if first == second == "" or _pair_of(first, second) in pairs]


def _walk(one, other, moves):
    """Give pairs of a flag and a spot of one formula the spots of the other one that are met with it.

    moves: triples of the pair of letters read, the flag ahead and the flag behind.
    """
    reached = {(0, one.start): 1 << other.start}
    waiting = [(0, one.start)]
    while waiting:
        flag, spot = waiting.pop()
        following = other.behind(reached[flag, spot])
        for letters, ahead, after in moves:
            mask = following & other.by_letter[letters[1]]
            if ahead != flag or mask == 0:
                continue
            for next_spot in bits_of(one.nexts[spot] & one.by_letter[letters[0]]):
                known = reached.get((after, next_spot), 0)
                if mask | known != known:
                    reached[after, next_spot] = mask | known
                    waiting.append((after, next_spot))
    return reached


def _is_end_met(one, other, reached, flag):
    return any([reached.get((flag, spot), 0) & other.ends != 0 for spot in bits_of(one.ends)])


class PairGrowth:
    """Nodes that grow while two types are read side by side, as LeastGrowth takes them.

    A sort is told by a triple (one, other, flag): nodes that can be given
    both types; with a flag, nodes that can be given the one type in two ways.
    """

    def __init__(self, schema):
        self.masks = {kind: FewSpots(formula) for kind, _, formula in schema.types}
        self.names = {kind: name for kind, name, _ in schema.types}
        self.numbers = {}
        self.told = []
        self.begins = []
        self.after = []
        self.sorts = []
        self._states = {}
        self._order = []
        for one, name, _ in schema.types:
            for other, other_name, _ in schema.types:
                if one <= other and name == other_name:
                    self._begin(one, other)
        while len(self.after) < len(self._order):
            self._go_on(self._order[len(self.after)])

    def _begin(self, one, other):
        flags = (False, True) if one == other else (False,)
        for flag in flags:
            key = (one, other, flag)
            self.numbers[key] = len(self.told)
            self.told.append(key)
            state = self._number_of((key, self.masks[one].start, self.masks[other].start, False))
            self.begins.append((self.names[one], state))

    def _number_of(self, state):
        if state not in self._states:
            self._states[state] = len(self._order)
            self._order.append(state)
            self.sorts.append(self._sorts_of(state))
        return self._states[state]

    def _sorts_of(self, state):
        key, spot, other_spot, parted = state
        at_ends = (self.masks[key[0]].ends >> spot) & (self.masks[key[1]].ends >> other_spot) & 1
        return [self.numbers[key]] if at_ends and parted == key[2] else []

    def _go_on(self, state):
        key, spot, other_spot, parted = state
        one = self.masks[key[0]]
        other = self.masks[key[1]]
        found = {}
        for first in bits_of(one.nexts[spot]):
            for second in bits_of(other.nexts[other_spot]):
                for thing, parts in self._things(one.letters[first], other.letters[second]):
                    after = parted or (key[2] and parts)
                    found[thing, self._number_of((key, first, second, after))] = True
        self.after.append(list(found))

    def _things(self, letter, other):
        """List the things that can be read as two letters at once, each with whether two ways part there."""
        if letter == "" or other == "":
            return [(TEXT, False)] if letter == other else []
        if letter != other:
            key = _pair_of(letter, other) + (False,)
            return [(self.numbers[key], True)] if key in self.numbers else []
        return [(self.numbers[letter, letter, False], False), (self.numbers[letter, letter, True], True)]
