"""Spots of formulas, and the traces of rows at them."""

from turnsfit.spotmasks import SpotMasks, bits_of
from turnsfit.words import are_states


def _has(mask, spot):
    return (mask >> spot) & 1 == 1


def spots(formula):
    return tuple(SpotMasks(formula).letters)


def first_spots(formula):
    masks = SpotMasks(formula)
    return tuple(bits_of(masks.nexts[masks.start]))


def last_spots(formula):
    masks = SpotMasks(formula)
    return tuple([spot for spot in bits_of(masks.ends) if spot != masks.start])


def next_spots(formula):
    masks = SpotMasks(formula)
    return tuple([tuple(bits_of(mask)) for mask in masks.nexts[:masks.start]])


def trace(formula, row):
    masks = SpotMasks(formula)
    ways = masks.ways_on([(letter,) for letter in row])
    spot = masks.start
    if not _has(ways[0], spot):
        return None
    found = []
    for letter, mask in zip(row, ways[1:]):
        spot = bits_of(masks.nexts[spot] & masks.by_letter[letter] & mask)[0]
        found.append(spot)
    return tuple(found)


def check_trace(formula, row, value):
    masks = SpotMasks(formula)
    if not are_states(value, len(row), masks.start):
        return False
    spot = masks.start
    for letter, after in zip(row, value):
        if masks.letters[after] != letter or not _has(masks.nexts[spot], after):
            return False
        spot = after
    return _has(masks.ends, spot)


def clash(formula):
    masks = SpotMasks(formula)
    # Up to the first clash each row leads to one spot at most, so the least
    # row that leads to a spot tells all that goes on there.
    queue = [((), masks.start)]
    met = {masks.start: True}
    at = 0
    while at < len(queue):
        row, spot = queue[at]
        at += 1
        for letter in sorted(masks.by_letter):
            after = bits_of(masks.nexts[spot] & masks.by_letter[letter])
            if len(after) > 1:
                return (row + (letter,), after[0], after[1])
            if after and after[0] not in met:
                met[after[0]] = True
                queue.append((row + (letter,), after[0]))
    return None


def is_plain(formula):
    return clash(formula) is None
