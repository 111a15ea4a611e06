"""Lines of calls, there and back."""

from turnsfit.deeds import is_call
from turnsfit.errors import InvalidCommand, InvalidSchema, InvalidText
from turnsfit.nodes import is_node
from turnsfit.nodetext import read_forest, thing_text
from turnsfit.schemas import Schema
from turnsfit.schematext import read_schema, schema_text
from turnsfit.turnings import Turning
from turnsfit.turningtext import read_turning, turning_text
from turnsfit.words import is_name, is_number, is_text

FIGURES = "0123456789"

# An integer has at most so many figures.
FIGURES_MOST = 4000

# How many things the forms of edits have, their words among them.
EDIT_LENGTHS = {"put": 4, "drop": 3, "name": 3, "say": 4}


def call_line(call):
    if not is_call(call):
        raise InvalidCommand()
    if call[0] in ("undo", "redo"):
        return call[0]
    if call[0] != "batch":
        return _deed_line(call)
    return "all " + "; ".join([_deed_line(deed) for deed in call[1]]) if call[1] else "all"


def _deed_line(deed):
    word = deed[0]
    if word in ("schema", "change"):
        return word + " " + deed[1] + " " + schema_text(Schema(deed[2], deed[3]))
    if word in ("turning", "rules"):
        return word + " " + deed[1] + " " + turning_text(Turning(deed[2], deed[3]))
    if word == "document":
        return " ".join(deed[:3]) + " " + thing_text(deed[3])
    if word == "edit":
        return word + " " + deed[1] + " " + _edit_line(deed[2])
    return " ".join(deed)


def _edit_line(edit):
    """Write any value as an edit, InvalidCommand for what is none of the four forms."""
    if not _is_edit_form(edit):
        raise InvalidCommand()
    line = edit[0] + " " + (".".join([str(number) for number in edit[1]]) if edit[1] else "-")
    line = line + " " + (edit[2] if edit[0] == "name" else str(edit[2]))
    return line if len(edit) == 3 else line + " " + thing_text(edit[3])


def _is_edit_form(value):
    if not isinstance(value, tuple) or len(value) == 0 or not isinstance(value[0], str):
        return False
    word = value[0]
    if word not in EDIT_LENGTHS or len(value) != EDIT_LENGTHS[word]:
        return False
    if not isinstance(value[1], tuple) or not all([is_number(number) for number in value[1]]):
        return False
    if word == "name":
        return is_name(value[2])
    if not is_number(value[2]):
        return False
    return word == "drop" or is_text(value[3]) or (word == "put" and is_node(value[3]))


def read_call(value):
    if not isinstance(value, str):
        raise InvalidCommand()
    call = _read(value)
    # Whatever was read, a line is one of a call alone if it is written so.
    if not is_call(call) or call_line(call) != value:
        raise InvalidCommand()
    return call


def _read(line):
    word, _, rest = line.partition(" ")
    if word != "all":
        return _read_deed(line)
    return ("batch", tuple([_read_deed(part) for part in rest.split("; ")]) if rest else ())


def _read_deed(line):
    word, _, rest = line.partition(" ")
    if word in ("schema", "change", "turning", "rules", "document", "edit"):
        name, _, text = rest.partition(" ")
        try:
            return (word, name) + _told(word, text)
        except (InvalidText, InvalidSchema):
            raise InvalidCommand()
    return tuple(line.split(" "))


def _told(word, text):
    """Read what stands behind the name in the line of a deed."""
    if word in ("schema", "change"):
        schema = read_schema(text)
        return (schema.types, schema.tops)
    if word in ("turning", "rules"):
        turning = read_turning(text)
        return (turning.rules, turning.mode)
    if word == "document":
        schema, _, thing = text.partition(" ")
        return (schema, _read_thing(thing))
    return (_read_edit(text),)


def _read_thing(text):
    forest = read_forest(text)
    if len(forest) != 1:
        raise InvalidCommand()
    return forest[0]


def _read_edit(text):
    word, _, rest = text.partition(" ")
    place, _, rest = rest.partition(" ")
    at, _, thing = rest.partition(" ")
    numbers = () if place == "-" else tuple([_read_number(number) for number in place.split(".")])
    found = (word, numbers, at if word == "name" else _read_number(at))
    return found + (_read_thing(thing),) if word in ("put", "say") else found


def _read_number(text):
    if text == "" or len(text) > FIGURES_MOST or not all([sign in FIGURES for sign in text]):
        raise InvalidCommand()
    return int(text)
