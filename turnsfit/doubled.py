"""Schemas by which each document has one typing at most, and those by which some has two."""

from turnsfit.fitting import typings_of
from turnsfit.leastgrowth import LeastGrowth
from turnsfit.pairwalks import PairGrowth, can_go_together, can_go_twice
from turnsfit.schemas import kinds_of
from turnsfit.spotmasks import FewSpots
from turnsfit.words import are_ascending_names, ascends


def two_typings(schema):
    growth = PairGrowth(schema)
    least = LeastGrowth(growth.begins, growth.after, growth.sorts, len(growth.told))
    tops = schema.tops
    wanted = [(one, other, False) for one, other in _pairs(tops) if one != other]
    wanted.extend([(kind, kind, True) for kind in tops])
    sort = least.least_sort([growth.numbers[key] for key in wanted if key in growth.numbers])
    if sort is None:
        return None
    node = least.nodes[sort]
    return (node,) + typings_of(schema, node, 2)


def _pairs(kinds):
    return [(one, other) for one in kinds for other in kinds if one <= other]


def _named_pairs(schema):
    """List the pairs of types of one name, the lesser one first, a type with itself, too."""
    names = {kind: name for kind, name, _ in schema.types}
    return [pair for pair in _pairs(kinds_of(schema)) if names[pair[0]] == names[pair[1]]]


def single_paper(schema):
    masks = _all_masks(schema)
    pairs = _grown(_named_pairs(schema), lambda pair, known: _both(masks, pair, known))
    twice = _grown(kinds_of(schema), lambda kind, known: can_go_twice(masks[kind], pairs, known))
    paper = (tuple(sorted(pairs)), tuple(sorted(twice)))
    return None if _tops_clash(schema, paper) else paper


def _all_masks(schema):
    return {kind: FewSpots(formula) for kind, _, formula in schema.types}


def _both(masks, pair, known):
    return can_go_together(masks[pair[0]], masks[pair[1]], known)


def _grown(things, comes):
    """Gather things that come with those known, until no more come: a dict of them."""
    known = {}
    many = -1
    while many < len(known):
        many = len(known)
        for thing in things:
            if thing not in known and comes(thing, known):
                known[thing] = True
    return known


def _tops_clash(schema, paper):
    pairs, twice = paper
    unlike = [pair for pair in pairs if pair[0] != pair[1] and pair[0] in schema.tops and pair[1] in schema.tops]
    return len(unlike) > 0 or any([kind in schema.tops for kind in twice])


def check_single(schema, value):
    if not _is_paper(schema, value) or _tops_clash(schema, value):
        return False
    masks = _all_masks(schema)
    pairs = {pair: True for pair in value[0]}
    twice = {kind: True for kind in value[1]}
    others = [pair for pair in _named_pairs(schema) if pair not in pairs]
    if any([_both(masks, pair, pairs) for pair in others]):
        return False
    return not any([can_go_twice(masks[kind], pairs, twice) for kind in kinds_of(schema) if kind not in twice])


def _is_paper(schema, value):
    """Tell whether any value is ascending pairs of types of one name, and ascending types."""
    if not isinstance(value, tuple) or len(value) != 2 or not isinstance(value[0], tuple):
        return False
    names = {kind: name for kind, name, _ in schema.types}
    if not all([_is_pair(names, pair) for pair in value[0]]) or not ascends(value[0]):
        return False
    return are_ascending_names(value[1]) and all([kind in names for kind in value[1]])


def _is_pair(names, value):
    if not isinstance(value, tuple) or len(value) != 2:
        return False
    if not all([isinstance(kind, str) and kind in names for kind in value]):
        return False
    return value[0] <= value[1] and names[value[0]] == names[value[1]]
