"""Rows read from state to state, each state with some ways on: for formulas that are put together."""

from turnsfit.alike import firsts_of, numbered
from turnsfit.elimination import Elimination
from turnsfit.spotmasks import FewSpots, SpotMasks, bits_of


class RowWalk:
    """States from 0 on, where rows begin: nexts has a list of pairs (letter, state) for each, ends whether rows end."""

    def __init__(self, nexts, ends):
        self.nexts = nexts
        self.ends = ends


def walk_of(formula):
    """Make a walk of few states through the rows that a formula spells."""
    masks = SpotMasks(formula)
    walk = _read_at_once(masks)
    return few_states(_read_apart(FewSpots(formula)) if walk is None else walk)


def _read_at_once(masks):
    """Make the walk with one way at most for a letter; None if it has more states than there are spots."""
    queue = [1 << masks.start]
    numbers = {queue[0]: 0}
    nexts = []
    while len(nexts) < len(queue) and len(queue) <= masks.start + 2:
        following = masks.behind(queue[len(nexts)])
        after = []
        for letter, fitting in masks.by_letter.items():
            mask = following & fitting
            if mask and mask not in numbers:
                numbers[mask] = len(queue)
                queue.append(mask)
            if mask:
                after.append((letter, numbers[mask]))
        nexts.append(after)
    if len(nexts) < len(queue):
        return None
    return RowWalk(nexts, [mask & masks.ends != 0 for mask in queue])


def _read_apart(masks):
    """Make the walk with a state for each spot, that of the start ahead of all."""
    order = [masks.start] + list(range(masks.start))
    nexts = [[(masks.letters[spot], spot + 1) for spot in bits_of(masks.nexts[state])] for state in order]
    return RowWalk(nexts, [(masks.ends >> state) & 1 == 1 for state in order])


def useful(walk, letters):
    """Leave states and ways on some row of letters of a dict from 0 to an end; None if there is no such row."""
    nexts = [[pair for pair in ways if pair[0] in letters] for ways in walk.nexts]
    ahead = _met([0], [[pair[1] for pair in ways] for ways in nexts])
    before = [[] for _ in nexts]
    for state, after in enumerate(nexts):
        for _, other in after:
            before[other].append(state)
    behind = _met([number for number, is_end in enumerate(walk.ends) if is_end], before)
    if 0 not in behind:
        return None
    order = [number for number in ahead if number in behind]
    numbers = {number: at for at, number in enumerate(order)}
    left = [[(pair[0], numbers[pair[1]]) for pair in nexts[number] if pair[1] in numbers] for number in order]
    return RowWalk(left, [walk.ends[number] for number in order])


def _met(first, nexts):
    """Give all states that are met from the first ones on a True, in the order in which they are met."""
    met = {state: True for state in first}
    queue = list(met)
    at = 0
    while at < len(queue):
        after = nexts[queue[at]]
        for other in after:
            if other not in met:
                met[other] = True
                queue.append(other)
        at += 1
    return met


def few_states(walk):
    """Put states together behind which all is alike."""
    classes = numbered(walk.ends)
    many = 0
    while many < max(classes) + 1:
        many = max(classes) + 1
        after = [tuple(sorted({(letter, classes[other]) for letter, other in pairs})) for pairs in walk.nexts]
        classes = numbered(list(zip(classes, after)))
    firsts = firsts_of(classes)
    nexts = [sorted({(letter, classes[other]) for letter, other in walk.nexts[first]}) for first in firsts]
    return RowWalk(nexts, [walk.ends[first] for first in firsts])


def formula_between(walk):
    """Make a formula of the rows from state 0 to ends; None if there are none."""
    return Elimination(walk).formula()
