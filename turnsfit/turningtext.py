"""Texts of turnings, there and back."""

from turnsfit.errors import InvalidText
from turnsfit.making import parts_worked_out
from turnsfit.nodetext import quote_end, quoted
from turnsfit.turnings import Turning, is_rule
from turnsfit.words import NAME_SIGNS, is_name

TEXT_LETTER = "#"
NO_PARTS = "-"

# What may come next: a part or a closing bracket, a part alone, or what is behind a part.
AT_FIRST = 0
AT_PART = 1
BEHIND = 2


def turning_text(turning):
    pieces = [turning.mode]
    for mode, letter, parts in turning.rules:
        name = TEXT_LETTER if letter == "" else letter
        pieces.append(mode + " " + name + " " + (parts_text(parts) if parts else NO_PARTS))
    return ", ".join(pieces)


def parts_text(parts):
    """Write parts with one blank between them."""
    return " ".join(parts_worked_out(parts, _part_text))


def _part_text(part, texts):
    if part[0] == "node":
        return part[1] + "(" + " ".join(texts) + ")"
    if part[0] == "say":
        return quoted(part[1])
    return "!" + part[1] if part[0] == "go" else "*"


def read_turning(text):
    if not isinstance(text, str):
        raise InvalidText(-1)
    pieces = text.split(", ")
    if not is_name(pieces[0]):
        raise InvalidText(0)
    rules = []
    for at in range(1, len(pieces)):
        rule = _rule(pieces[at])
        if rule is None or (rules and rule[:2] <= rules[-1][:2]):
            raise InvalidText(at)
        rules.append(rule)
    return Turning(tuple(rules), pieces[0])


def _rule(piece):
    """Read a rule, None where a piece is no text of one."""
    mode, _, rest = piece.partition(" ")
    name, _, parts = rest.partition(" ")
    if name != TEXT_LETTER and not is_name(name):
        return None
    try:
        rule = (mode, "" if name == TEXT_LETTER else name, _read_parts(parts))
    except InvalidText:
        return None
    return rule if is_rule(rule) else None


def _read_parts(text):
    """Read the parts of a rule for any letter; InvalidText for what is no text of them."""
    if text == NO_PARTS:
        return ()
    names = []
    rows = [[]]
    state = AT_PART
    at = 0
    while at < len(text):
        sign = text[at]
        end = at + 1
        if state != BEHIND and sign in NAME_SIGNS:
            end = _name_end(text, at)
            names.append(text[at:end])
            rows.append([])
            state = AT_FIRST
            if text[end:end + 1] != "(":
                raise InvalidText(end)
            end += 1
        elif state != BEHIND and sign in '"!*':
            end, part = _leaf(text, at)
            rows[-1].append(part)
            state = BEHIND
        elif state != AT_PART and sign == ")" and names:
            parts = rows.pop()
            rows[-1].append(("node", names.pop(), tuple(parts)))
            state = BEHIND
        elif state == BEHIND and sign == " ":
            state = AT_PART
        else:
            raise InvalidText(at)
        at = end
    if names or state == AT_PART:
        raise InvalidText(at)
    return tuple(rows[0])


def _leaf(text, at):
    """Read a part without parts in it: the number behind it, and the part."""
    if text[at] == '"':
        end = quote_end(text, at)
        return (end + 1, ("say", text[at + 1:end]))
    if text[at] == "!":
        end = _name_end(text, at + 1)
        return (end, ("go", text[at + 1:end]))
    return (at + 1, ("keep",))


def _name_end(text, at):
    while at < len(text) and text[at] in NAME_SIGNS:
        at += 1
    return at
