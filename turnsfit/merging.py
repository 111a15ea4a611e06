"""Edits of one document done side by side, and what is left of each behind the other."""

from turnsfit.edits import all_done
from turnsfit.errors import Refused



def moved(place, edit):
    word, node_place, at = edit[:3]
    depth = len(node_place)
    if word not in ("put", "drop") or len(place) <= depth or place[:depth] != node_place:
        return place
    number = place[depth]
    if word == "put":
        return place if number < at else _with_number(place, depth, number + 1)
    if number == at:
        return None
    return place if number < at else _with_number(place, depth, number - 1)


def _with_number(place, depth, number):
    return place[:depth] + (number,) + place[depth + 1:]


def edit_behind(edit, other):
    word, place, at = edit[:3]
    if word != "put" and edit == other:
        return None
    if word in ("drop", "say"):
        thing = moved(place + (at,), other)
        return None if thing is None else (word, thing[:-1], thing[-1]) + edit[3:]
    node_place = moved(place, other)
    if node_place is None:
        return None
    if word == "put":
        at = _put_number(place, at, other)
    return (word, node_place, at) + edit[3:]


def _put_number(place, at, other):
    """Tell where a thing is put then, by the things that come or go ahead of it."""
    if other[0] not in ("put", "drop") or other[1] != place or other[2] >= at:
        return at
    return at + 1 if other[0] == "put" else at - 1


def do_clash(one, other):
    if one[0] == "drop" or one[:2] != other[:2]:
        return False
    return one != other and (one[0] == "name" or one[2] == other[2])


def first_clash(ones, others):
    return _met(ones, others)[0]


def _met(ones, others):
    """Let each of the ones meet what is left of the others: the first clash, and what is left of either."""
    left = list(others)
    left_ones = []
    for number, edit in enumerate(ones):
        for at, other in enumerate(list(left)):
            if edit is None or other is None:
                continue
            if do_clash(edit, other):
                return ((number, at), [], [])
            left[at] = edit_behind(other, edit)
            edit = edit_behind(edit, other)
        left_ones.append(edit)
    return (None, left_ones, left)


def both_ways(ones, others):
    clash, left_ones, left = _met(ones, others)
    if clash is not None:
        raise Refused("clash")
    return (_without_gone(left), _without_gone(left_ones))


def _without_gone(edits):
    return tuple([edit for edit in edits if edit is not None])


def merged(node, ones, others):
    left = both_ways(ones, others)[0]
    return all_done(node, tuple(ones) + left)
