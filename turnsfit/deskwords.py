"""The lines that are told to desks, and what they are about."""

from turnsfit.commands import call_line, read_call
from turnsfit.deeds import SORTS
from turnsfit.errors import InvalidCommand
from turnsfit.nodetext import thing_text
from turnsfit.turnings import made_document
from turnsfit.words import is_name

# The sorts of the names in questions that are answered by facts.
JUDGED = {
    "fits": ("schema", "document"), "cost": ("schema", "document"), "empty": ("schema",), "single": ("schema",),
    "plain": ("schema",), "within": ("schema", "schema"), "leads": ("turning", "schema", "schema")}

# The sorts of the names in all other questions; a sort itself for "names".
LOOKED_UP = {"calls": (), "depth": (), "names": ("",), "thing": ("",), "made": ("link", "document")}


def read_line(value):
    """Read any value as a line: a pair of the word of a question and its names, or of "call" and a call."""
    if not isinstance(value, str):
        raise InvalidCommand()
    words = value.split(" ")
    sorts = JUDGED.get(words[0], LOOKED_UP.get(words[0]))
    if sorts is None:
        return ("call", read_call(value))
    if len(words) != len(sorts) + 1 or not all([is_name(name) for name in words[1:]]):
        raise InvalidCommand()
    if words[0] == "names" and words[1] not in SORTS:
        raise InvalidCommand()
    return (words[0], tuple(words[1:]))


def word_of_names(rooms, word, names):
    """Tell the word with which a question is refused because of its names, None if they are right."""
    sorts = LOOKED_UP[word] if word in LOOKED_UP else JUDGED[word]
    for name, sort in zip(names, sorts):
        if word == "names":
            return None
        if name not in rooms.there:
            return "name"
        if sort not in ("", rooms.there[name][0]):
            return "sort"
    if word == "made" and rooms.there[names[0]][1][1] != rooms.there[names[1]][1][0]:
        return "schema"
    return None


def looked_up(rooms, word, names):
    """Tell the answer to a question that no fact is needed for."""
    if word == "calls":
        return tuple([call_line(call) for call in rooms.all_calls()])
    if word == "depth":
        return rooms.depths()
    if word == "names":
        return rooms.names_of_sort(names[0])
    sort, thing = rooms.there[names[0]]
    if word == "made":
        turning = rooms.there[thing[0]][1]
        return thing_text(made_document(turning, rooms.there[names[1]][1][1]))
    return call_line(_deed_of(names[0], sort, thing))


def _deed_of(name, sort, thing):
    """Make the deed with which a thing would come as it is."""
    if sort == "schema":
        return (sort, name, thing.types, thing.tops)
    if sort == "turning":
        return (sort, name, thing.rules, thing.mode)
    return (sort, name) + thing


def question_of(rooms, word, names):
    """Tell the question of the fact that answers a question about some names."""
    things = []
    for name in names:
        sort, thing = rooms.there[name]
        things.append(thing[1] if sort == "document" else thing)
    return things[0] if len(JUDGED[word]) == 1 else tuple(things)
