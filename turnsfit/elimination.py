"""Formulas of the rows that a row table accepts, made by taking its states out one by one."""

EMPTY = ("empty",)


class Elimination:
    """States with formulas between them, one state ahead of all and one behind all.

    When a state is taken out, the ways through it are put between those
    around it: so no formula has more than four times the letters that the
    greatest one had before.
    """

    def __init__(self, table):
        self.ahead = len(table.nexts)
        self.final = self.ahead + 1
        self.ways = {(self.ahead, 0): EMPTY}
        for state in table.ends:
            self.ways[state, self.final] = EMPTY
        for state, after in enumerate(table.nexts):
            for letter, other in zip(table.letters, after):
                self._add(state, other, ("one", letter) if letter != "" else ("text",))
        self.left = list(range(self.ahead))

    def _add(self, state, other, formula):
        known = self.ways.get((state, other))
        self.ways[state, other] = formula if known is None else _either(known, formula)

    def formula(self):
        """Take out all states: what is left between the two others, None if there is nothing."""
        while self.left:
            state = min(self.left, key=self._weight)
            self.left.remove(state)
            self._take_out(state)
        return self.ways.get((self.ahead, self.final))

    def _weight(self, state):
        """Tell by how many pairs of ways a state is gone through: those with few are taken out first."""
        return len(self._into(state)) * len(self._out_of(state))

    def _into(self, state):
        return [pair[0] for pair in self.ways if pair[1] == state and pair[0] != state]

    def _out_of(self, state):
        return [pair[1] for pair in self.ways if pair[0] == state and pair[1] != state]

    def _take_out(self, state):
        before = self._into(state)
        behind = self._out_of(state)
        loop = _star(self.ways.get((state, state), EMPTY))
        for one in before:
            for other in behind:
                self._add(one, other, _row([self.ways[one, state], loop, self.ways[state, other]]))
        self.ways = {pair: self.ways[pair] for pair in self.ways if state not in pair}


def _row(parts):
    found = []
    for part in parts:
        if part[0] == "row":
            found.extend(part[1])
        elif part != EMPTY:
            found.append(part)
    if len(found) < 2:
        return found[0] if found else EMPTY
    return ("row", tuple(found))


def _either(one, other):
    if one == EMPTY or other == EMPTY:
        part = other if one == EMPTY else one
        return part if part[0] in ("empty", "maybe", "star") else ("maybe", part)
    return ("either", _sides(one) + _sides(other))


def _sides(formula):
    return formula[1] if formula[0] == "either" else (formula,)


def _star(formula):
    if formula == EMPTY:
        return EMPTY
    return ("star", formula[1] if formula[0] in ("star", "some", "maybe") else formula)
