"""Formulas of the rows that lead through states, made by taking the states out one by one."""

EMPTY = ("empty",)


class Elimination:
    """States with formulas between them, one state ahead of all and one behind all.

    When a state is taken out, the ways through it are put between those
    around it: so no formula has more than four times the letters that the
    greatest one had before.
    """

    def __init__(self, walk):
        many = len(walk.nexts)
        self.ahead = many
        self.final = many + 1
        self.ways = [{} for _ in range(many + 2)]
        self.into = [{} for _ in range(many + 2)]
        self.ways[self.ahead][0] = (EMPTY, 0)
        self.into[0][self.ahead] = True
        for state, after in enumerate(walk.nexts):
            if walk.ends[state]:
                self._add(state, self.final, (EMPTY, 0))
            for letter, other in after:
                self._add(state, other, (("one", letter) if letter != "" else ("text",), 1))
        self.left = list(range(many))

    def _add(self, state, other, way):
        """Put one more way between two states: a formula and how many letters it has."""
        known = self.ways[state].get(other)
        if known is not None:
            way = (_either(known[0], way[0]), known[1] + way[1])
        self.ways[state][other] = way
        self.into[other][state] = True

    def formula(self):
        """Take out all states: what is left between the two others, None if there is nothing."""
        while self.left:
            state = min(self.left, key=self._weight)
            self.left.remove(state)
            self._take_out(state)
        return self.ways[self.ahead].get(self.final, (None, 0))[0]

    def _weight(self, state):
        """Tell how many letters more there are if a state is taken out: those with few are taken out first."""
        before = [other for other in self.into[state] if other != state]
        behind = [other for other in self.ways[state] if other != state]
        loop = self.ways[state].get(state, (EMPTY, 0))[1]
        ahead = sum([self.ways[other][state][1] for other in before])
        after = sum([self.ways[state][other][1] for other in behind])
        return ahead * (len(behind) - 1) + after * (len(before) - 1) + loop * (len(before) * len(behind) - 1)

    def _take_out(self, state):
        before = [other for other in self.into[state] if other != state]
        behind = [other for other in self.ways[state] if other != state]
        loop, loop_size = self.ways[state].get(state, (EMPTY, 0))
        loop = _star(loop)
        for one in before:
            first, first_size = self.ways[one][state]
            for other in behind:
                last, last_size = self.ways[state][other]
                self._add(one, other, (_row([first, loop, last]), first_size + loop_size + last_size))
        for one in before:
            del self.ways[one][state]
        for other in behind:
            del self.into[other][state]


def _row(parts):
    found = []
    for part in parts:
        if part[0] == "row":
            found.extend(part[1])
        elif part != EMPTY:
            found.append(part)
    if len(found) < 2:
        return found[0] if found else EMPTY
    return ("row", tuple(found))


def _either(one, other):
    if one == EMPTY or other == EMPTY:
        part = other if one == EMPTY else one
        return part if part[0] in ("empty", "maybe", "star") else ("maybe", part)
    return ("either", _sides(one) + _sides(other))


def _sides(formula):
    return formula[1] if formula[0] == "either" else (formula,)


def _star(formula):
    if formula == EMPTY:
        return EMPTY
    return ("star", formula[1] if formula[0] in ("star", "some", "maybe") else formula)
