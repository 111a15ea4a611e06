"""Marks: documents as one reads them."""

from turnsfit.errors import InvalidNode
from turnsfit.words import is_name, is_text

CLOSE = ("close",)


def marks_of(node):
    # None stands behind the things of a node, where it closes.
    waiting = [node]
    marks = []
    while waiting:
        thing = waiting.pop()
        if thing is None:
            marks.append(CLOSE)
        elif isinstance(thing, str):
            marks.append(("text", thing))
        else:
            marks.append(("open", thing[0]))
            waiting.append(None)
            waiting.extend(thing[1][::-1])
    return tuple(marks)


def need_marks(value):
    if _nodes_left(value) != 0:
        raise InvalidNode(len(value))


def _nodes_left(value):
    """Count the nodes that are open behind any value; 1, too, where none was opened."""
    if not isinstance(value, tuple):
        raise InvalidNode(-1)
    left = 1
    for at, mark in enumerate(value):
        word = mark_word(mark)
        begins = at == 0 and word == "open"
        if word is None or (not begins and (at == 0 or left == 0)):
            raise InvalidNode(at)
        if word == "open" and not begins:
            left += 1
        elif word == "close":
            left -= 1
    return left


def mark_word(value):
    """Tell the word of a mark, None for what is none."""
    if not isinstance(value, tuple) or len(value) == 0:
        return None
    if value == CLOSE:
        return "close"
    if len(value) == 2 and value[0] == "open" and is_name(value[1]):
        return "open"
    if len(value) == 2 and value[0] == "text" and is_text(value[1]):
        return "text"
    return None


def is_beginning(value):
    try:
        _nodes_left(value)
    except InvalidNode:
        return False
    return True


def node_of(marks):
    names = []
    rows = [[]]
    for mark in marks:
        if mark[0] == "open":
            names.append(mark[1])
            rows.append([])
        elif mark[0] == "text":
            rows[-1].append(mark[1])
        else:
            things = rows.pop()
            rows[-1].append((names.pop(), tuple(things)))
    return rows[0][0]


def place_behind(marks):
    place = []
    for mark in marks:
        if mark[0] == "open":
            place.append(0)
        else:
            if mark[0] == "close":
                place.pop()
            if not place:
                return None
            place[-1] = place[-1] + 1
    return tuple(place)
