"""How much turnings make: things of which something is made, how often a thing is turned, and growing papers."""

from turnsfit.errors import Refused
from turnsfit.making import all_parts, goes_within
from turnsfit.modeways import ModeWays
from turnsfit.nodes import least_of, size_of
from turnsfit.places import need_place
from turnsfit.turnings import made_size, modes_of
from turnsfit.words import is_name


def fruit(turning, mode):
    return _fruits(turning).get(mode)


def _fruits(turning):
    """Give each fruitful mode its least thing."""
    fruits = {}
    changed = True
    while changed:
        changed = False
        for mode in modes_of(turning):
            found = _found(turning, mode, fruits)
            if found and fruits.get(mode) != least_of(found):
                fruits[mode] = least_of(found)
                changed = True
    return fruits


def _found(turning, mode, fruits):
    """List the least things that rules of a mode make something of, as far as those of other modes are known."""
    found = []
    for own, letter, parts in turning.rules:
        if own != mode or not parts:
            continue
        if letter == "":
            found.append("")
        elif _is_made_of_nothing(parts):
            found.append((letter, ()))
        else:
            found.extend([(letter, (fruits[other],)) for other in goes_within(parts) if other in fruits])
    return found


def _is_made_of_nothing(parts):
    """Tell whether parts of a rule for nodes make something where nothing stands in the node."""
    return any([part[0] != "go" for part in parts])


def uses(turning, node, place):
    need_place(node, place)
    ways = ModeWays(turning)
    fruits = _fruits(turning)
    counts = {turning.mode: 1}
    thing = node
    for number in place:
        counts = ways.counts_behind(counts, thing[0])
        thing = thing[1][number]
    return _fruitful_sum(counts, fruits)


def _fruitful_sum(counts, fruits):
    return sum([count for mode, count in counts.items() if mode in fruits])


def growing(turning):
    fruits = _fruits(turning)
    ways = ModeWays(turning)
    if turning.mode not in fruits:
        return None
    reached = ways.ways_from(turning.mode, fruits)
    for one in sorted(reached):
        for other in sorted(fruits):
            loop = ways.growing_loop(one, other, fruits)
            if loop is not None:
                return (reached[one], loop, one, other)
    return None


def check_growing(turning, value):
    if not isinstance(value, tuple) or len(value) != 4:
        return False
    way, loop, one, other = value
    if not _are_names(way) or not _are_names(loop):
        return False
    fruits = _fruits(turning)
    if not all([isinstance(mode, str) and mode in fruits for mode in (one, other)]):
        return False
    ways = ModeWays(turning)
    from_one = ways.counts_along({one: 1}, loop)
    if ways.counts_along({turning.mode: 1}, way).get(one, 0) == 0:
        return False
    if one == other:
        return from_one.get(one, 0) > 1
    from_other = ways.counts_along({other: 1}, loop)
    return min(from_one.get(one, 0), from_one.get(other, 0), from_other.get(other, 0)) > 0


def _are_names(value):
    return isinstance(value, tuple) and all([is_name(name) for name in value])


def most_uses(turning):
    if growing(turning) is not None:
        return None
    fruits = _fruits(turning)
    if turning.mode not in fruits:
        return 0
    ways = ModeWays(turning)
    return max([_fruitful_sum(counts, fruits) for counts in ways.most_counts(turning.mode, fruits)])


def size_factor(turning):
    most = most_uses(turning)
    if most is None:
        return None
    own = [len([part for part in all_parts(rule[2]) if part[0] != "go"]) for rule in turning.rules]
    return most * max(own, default=0)


def burst(turning, times):
    paper = growing(turning)
    if paper is None:
        raise Refused("bounded")
    way, loop, one, other = paper
    thing = fruit(turning, other)
    found = []
    # So many turns are enough: each makes one use more at least of what
    # stands below, of which there can be as much as is needed.
    for turns in range(1, times * size_of(thing) + 2):
        names = way + loop * turns
        if found and len(names) >= min(found)[0]:
            break
        many = _enough(turning, names, thing, times)
        if many is not None:
            found.append((len(names) + many * size_of(thing), turns, many))
    _, turns, many = min(found)
    return _nested(way + loop * turns, (thing,) * many)


def _nested(names, forest):
    """Put nodes with some names one into another, from the top down, around a forest."""
    for name in names[::-1]:
        forest = ((name, forest),)
    return forest[0]


def _enough(turning, names, thing, times):
    """Tell how many of a thing have to stand below nodes with some names; None if no number is enough."""
    bare = made_size(turning, _nested(names, ()))
    gain = made_size(turning, _nested(names, (thing,))) - bare - times * size_of(thing)
    lack = times * len(names) - bare
    if lack < 0:
        return 0
    return lack // gain + 1 if gain > 0 else None
