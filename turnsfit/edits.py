"""Edits of documents, and those that lead back."""

from turnsfit.errors import InvalidEdit, InvalidNode, InvalidPlace
from turnsfit.nodes import compared, need_thing
from turnsfit.places import at_place, with_thing
from turnsfit.words import is_name, is_number, is_text

LENGTHS = {"put": 4, "drop": 3, "name": 3, "say": 4}


def need_edit(node, value):
    if not isinstance(value, tuple) or len(value) == 0 or not isinstance(value[0], str):
        raise InvalidEdit(0)
    if value[0] not in LENGTHS or len(value) != LENGTHS[value[0]]:
        raise InvalidEdit(0)
    changed = _node_at(node, value[1])
    if changed is None:
        raise InvalidEdit(1)
    if not _is_second(changed[1], value):
        raise InvalidEdit(2)
    if not _is_third(value):
        raise InvalidEdit(3)


def _node_at(node, place):
    """Tell the node at any value as a place, None if there is none."""
    try:
        thing = at_place(node, place)
    except InvalidPlace:
        return None
    return None if isinstance(thing, str) else thing


def _is_second(things, edit):
    word = edit[0]
    at = edit[2]
    if word == "name":
        return is_name(at)
    most = len(things) if word == "put" else len(things) - 1
    if not is_number(at) or at > most:
        return False
    return word != "say" or isinstance(things[at], str)


def _is_third(edit):
    if edit[0] == "say":
        return is_text(edit[3])
    if edit[0] != "put":
        return True
    try:
        need_thing(edit[3])
    except InvalidNode:
        return False
    return True


def is_edit(node, value):
    try:
        need_edit(node, value)
    except InvalidEdit:
        return False
    return True


def done(node, edit):
    need_edit(node, edit)
    name, things = at_place(node, edit[1])
    at = edit[2]
    if edit[0] == "put":
        changed = (name, things[:at] + (edit[3],) + things[at:])
    elif edit[0] == "drop":
        changed = (name, things[:at] + things[at + 1:])
    elif edit[0] == "name":
        changed = (at, things)
    else:
        changed = (name, things[:at] + (edit[3],) + things[at + 1:])
    return with_thing(node, edit[1], changed)


def undoing(node, edit):
    need_edit(node, edit)
    word, place, at = edit[:3]
    name, things = at_place(node, place)
    if word == "put":
        return ("drop", place, at)
    if word == "drop":
        return ("put", place, at, things[at])
    if word == "name":
        return ("name", place, name)
    return ("say", place, at, things[at])


def all_done(node, edits):
    return _run(node, edits)[0]


def undoing_all(node, edits):
    return tuple(_run(node, edits)[1][::-1])


def _run(node, edits):
    """Do edits one by one: the document behind them, and the list of what undoes each."""
    back = []
    for number, edit in enumerate(edits):
        try:
            back.append(undoing(node, edit))
        except InvalidEdit as wrong:
            raise InvalidEdit((number, wrong.at))
        node = done(node, edit)
    return (node, back)


def edits_between(one, other):
    edits = [] if one[0] == other[0] else [("name", (), other[0])]
    olds = one[1]
    news = other[1]
    ahead = _many_alike(olds, news)
    after = _many_alike(olds[ahead:][::-1], news[ahead:][::-1])
    edits.extend([("drop", (), ahead)] * (len(olds) - ahead - after))
    for at in range(ahead, len(news) - after):
        edits.append(("put", (), at, news[at]))
    return tuple(edits)


def _many_alike(things, others):
    """Count how many things two forests both begin with."""
    many = 0
    while many < min(len(things), len(others)) and compared(things[many], others[many]) == 0:
        many += 1
    return many
