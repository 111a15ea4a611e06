"""Texts of documents and forests, there and back."""

from turnsfit.errors import InvalidText
from turnsfit.nodes import built
from turnsfit.words import NAME_MOST, NAME_SIGNS, TEXT_MOST, TEXT_SIGNS

# What may come next: a thing or an end, a thing alone, or what is behind a thing.
AT_FIRST = 0
AT_THING = 1
BEHIND = 2


def thing_text(thing):
    return built(thing, quoted, _node_text)


def quoted(text):
    """Put a text between its two signs."""
    return '"' + text + '"'


def _node_text(name, texts):
    return name + "(" + " ".join(texts) + ")"


def forest_text(forest):
    return " ".join([thing_text(thing) for thing in forest])


def read_node(value):
    return _read(value, True)[0]


def read_forest(value):
    return _read(value, False)


def _read(value, alone):
    if not isinstance(value, str):
        raise InvalidText(-1)
    names = []
    rows = [[]]
    state = AT_FIRST
    at = 0
    while at < len(value):
        sign = value[at]
        free = len(names) > 0 or not alone
        if state != BEHIND and sign == '"' and free:
            end = quote_end(value, at)
            rows[-1].append(value[at + 1:end])
            state = BEHIND
        elif state != BEHIND and sign in NAME_SIGNS:
            end = _name_end(value, at)
            names.append(value[at:end])
            rows.append([])
            state = AT_FIRST
        elif state != AT_THING and sign == ")" and names:
            things = rows.pop()
            rows[-1].append((names.pop(), tuple(things)))
            end = at
            state = BEHIND
        elif state == BEHIND and sign == " " and free:
            end = at
            state = AT_THING
        else:
            raise InvalidText(at)
        at = end + 1
    if names or state == AT_THING or (alone and not rows[0]):
        raise InvalidText(len(value))
    return tuple(rows[0])


def quote_end(text, at):
    """Find the closing sign of a text that begins at a number; InvalidText where there is none."""
    for end in range(at + 1, len(text)):
        if text[end] == '"':
            return end
        if end - at > TEXT_MOST or text[end] not in TEXT_SIGNS:
            raise InvalidText(end)
    raise InvalidText(len(text))


def _name_end(text, at):
    for end in range(at, len(text)):
        if end > at and text[end] == "(":
            return end
        if end - at >= NAME_MOST or text[end] not in NAME_SIGNS:
            raise InvalidText(end)
    raise InvalidText(len(text))
