"""Deeds in houses: their forms, what is against them, and what is there behind them.

What is there is told by a dict: for each name the pair of the word of its sort and the thing.
"""

from turnsfit.edits import done, is_edit
from turnsfit.nodes import is_node
from turnsfit.schemas import Schema, is_schema
from turnsfit.turnings import Turning, is_turning
from turnsfit.words import is_name

SORTS = ("schema", "document", "turning", "link")

# How many things stand behind the word of a deed, and how many names these begin with.
LENGTHS = {"schema": 3, "change": 3, "document": 3, "edit": 2, "turning": 3, "rules": 3, "link": 4, "drop": 1}
NAMES_FIRST = {"schema": 1, "change": 1, "document": 2, "edit": 1, "turning": 1, "rules": 1, "link": 4, "drop": 1}

# The sorts that the names in deeds have to be of, where something is to be there.
OWN_SORTS = {"change": "schema", "edit": "document", "rules": "turning"}
USED_SORTS = {"document": ("schema",), "link": ("turning", "schema", "schema")}


def is_call(value):
    """Tell whether any value is a call."""
    if is_deed(value) or value == ("undo",) or value == ("redo",):
        return True
    if not isinstance(value, tuple) or len(value) != 2 or not isinstance(value[0], str) or value[0] != "batch":
        return False
    return isinstance(value[1], tuple) and all([is_deed(deed) for deed in value[1]])


def is_deed(value):
    """Tell whether any value is a deed."""
    if not isinstance(value, tuple) or len(value) == 0 or not isinstance(value[0], str):
        return False
    word = value[0]
    if word not in LENGTHS or len(value) != LENGTHS[word] + 1:
        return False
    if not all([is_name(name) for name in value[1:NAMES_FIRST[word] + 1]]):
        return False
    if word in ("schema", "change"):
        return is_schema(Schema(value[2], value[3]))
    if word in ("turning", "rules"):
        return is_turning(Turning(value[2], value[3]))
    return word != "document" or is_node(value[3])


def deeds_of(call):
    """Tell the deeds of a call, other than undo and redo."""
    return call[1] if call[0] == "batch" else (call,)


def word_against(things, deed):
    """Tell the word with which a deed is refused, None if it can be done."""
    word, name = deed[:2]
    if (word in SORTS) == (name in things):
        return "name"
    needed = [(name, OWN_SORTS[word])] if word in OWN_SORTS else []
    needed.extend(list(zip(deed[2:], USED_SORTS.get(word, ()))))
    for other, sort in needed:
        if other not in things:
            return "name"
        if things[other][0] != sort:
            return "sort"
    if word == "edit" and not is_edit(things[name][1][1], deed[2]):
        return "edit"
    return "used" if word == "drop" and _is_used(things, name) else None


def _is_used(things, name):
    return any([name in used_by(pair) for pair in list(things.values())])


def used_by(pair):
    """Tell the names that a document belongs to, or that a link has, told by its sort and the thing."""
    sort, thing = pair
    if sort == "document":
        return thing[:1]
    return thing if sort == "link" else ()


def things_behind(things, deed):
    """Tell what is there behind a deed that can be done."""
    word, name = deed[:2]
    if word == "drop":
        return {other: things[other] for other in things if other != name}
    made = {other: things[other] for other in things}
    if word in ("schema", "change"):
        made[name] = ("schema", Schema(deed[2], deed[3]))
    elif word in ("turning", "rules"):
        made[name] = ("turning", Turning(deed[2], deed[3]))
    elif word == "edit":
        schema, node = things[name][1]
        made[name] = ("document", (schema, done(node, deed[2])))
    else:
        made[name] = (word, deed[2:])
    return made


def questions_anew(before, after):
    """List what is to be judged where not all is as it was: pairs of a name and a question, for documents and links.

    What was there already is right, if nothing that it depends on has changed.
    """
    names = [name for name in sorted(after) if not _is_as_it_was(before, after, name)]
    documents = []
    links = []
    for name in names:
        sort, thing = after[name]
        if sort == "document":
            documents.append((name, (after[thing[0]][1], thing[1])))
        elif sort == "link":
            links.append((name, tuple([after[other][1] for other in thing])))
    return (documents, links)


def _is_as_it_was(before, after, name):
    """Tell whether something was there, and all that it belongs to or has is the same."""
    names = (name,) + used_by(after[name])
    return all([other in before and before[other] == after[other] for other in names])
