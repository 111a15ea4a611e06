"""What edits and mends of documents cost, and what mends make."""

from turnsfit.alive import alive_types
from turnsfit.edits import done
from turnsfit.formulas import spells
from turnsfit.leastnodes import LeastNodes
from turnsfit.nodes import size_of
from turnsfit.places import at_place
from turnsfit.schemas import formula_for, kinds_of, name_for
from turnsfit.stacks import taken

DROP = ("drop",)


def edit_cost(node, edit):
    word, place, at = edit[:3]
    name, things = at_place(node, place)
    if word == "put":
        return size_of(edit[3])
    if word == "drop":
        return size_of(things[at])
    return 1 if word == "name" and at != name else 0


def edits_cost(node, edits):
    cost = 0
    for edit in edits:
        cost += edit_cost(node, edit)
        node = done(node, edit)
    return cost


def check_mend(schema, node, value):
    kinds = kinds_of(schema)
    alive = {kind: True for kind in alive_types(schema)}
    if not _is_pair(kinds, value) or value[0] not in schema.tops:
        return False
    waiting = [(node, value)]
    while waiting:
        inner, mend = waiting.pop()
        row = _row_read(kinds, alive, inner[1], mend[1])
        if row is None or not spells(formula_for(schema, mend[0]), row):
            return False
        waiting.extend(_kept_nodes(inner[1], mend[1]))
    return True


def _is_pair(kinds, value):
    """Tell whether any value is a type and a tuple."""
    if not isinstance(value, tuple) or len(value) != 2:
        return False
    return isinstance(value[0], str) and value[0] in kinds and isinstance(value[1], tuple)


def _row_read(kinds, alive, things, steps):
    """List the letters that steps through things read; None if they are no steps of a mend through all of them."""
    row = []
    at = 0
    for step in steps:
        thing = things[at] if at < len(things) else None
        letter = _letter_read(kinds, alive, thing, step)
        if letter is None:
            return None
        if step != DROP:
            row.append(letter)
        if step[0] != "put":
            at += 1
    return row if at == len(things) else None


def _letter_read(kinds, alive, thing, step):
    """Tell the letter that any value reads as a step at a thing ("" for a drop), None if it is no step there."""
    if step == DROP:
        return None if thing is None else ""
    if not isinstance(step, tuple) or len(step) != 2:
        return None
    word, part = step
    if word == "put":
        return part if isinstance(part, str) and (part == "" or part in alive) else None
    if word != "keep" or thing is None:
        return None
    if isinstance(thing, str):
        return "" if isinstance(part, str) and part == "" else None
    return part[0] if _is_pair(kinds, part) else None


def _kept_nodes(things, steps):
    """List the nodes that steps of a mend keep, each with its own mend."""
    return [(thing, part) for thing, part in _kept_things(things, steps) if not isinstance(thing, str)]


def _kept_things(things, steps):
    found = []
    at = 0
    for step in steps:
        if step[0] == "keep":
            found.append((things[at], step[1]))
        if step[0] != "put":
            at += 1
    return found


def _all_mends(node, mend):
    """List the nodes that a mend keeps, the top first, each with its own mend, in the order of reading."""
    waiting = [(node, mend)]
    found = []
    while waiting:
        pair = waiting.pop()
        found.append(pair)
        waiting.extend(_kept_nodes(pair[0][1], pair[1][1])[::-1])
    return found


def mend_cost(schema, node, mend):
    sizes = LeastNodes(schema).letter_sizes()
    return sum([_own_cost(schema, sizes, inner, own) for inner, own in _all_mends(node, mend)])


def _own_cost(schema, sizes, node, mend):
    """Tell what a mend costs without those in it."""
    cost = 0 if name_for(schema, mend[0]) == node[0] else 1
    at = 0
    for step in mend[1]:
        if step[0] == "put":
            cost += sizes[step[1]]
            continue
        if step == DROP:
            cost += size_of(node[1][at])
        at += 1
    return cost


def mend_made(schema, node, mend):
    least = LeastNodes(schema)
    made = []
    for inner, own in _all_mends(node, mend)[::-1]:
        kept = taken(made, len(_kept_nodes(inner[1], own[1])))
        made.append((name_for(schema, own[0]), tuple(_things_made(least, inner[1], own[1], kept))))
    return made[0]


def _things_made(least, things, steps, kept):
    """List what steps make of things, if the nodes kept become others."""
    made = []
    at = 0
    nodes = 0
    for step in steps:
        if step[0] == "put":
            made.append(least.thing(step[1]))
            continue
        if step[0] == "keep" and isinstance(things[at], str):
            made.append(things[at])
        elif step[0] == "keep":
            made.append(kept[nodes])
            nodes += 1
        at += 1
    return made


def mend_edits(schema, node, mend):
    least = LeastNodes(schema)
    waiting = [((), node, mend)]
    edits = []
    while waiting:
        place, inner, own = waiting.pop()
        name = name_for(schema, own[0])
        if name != inner[0]:
            edits.append(("name", place, name))
        # All is put and dropped here first: so what is kept has its last
        # place when it comes to be mended itself.
        at = 0
        number = 0
        for step in own[1]:
            if step[0] == "put":
                edits.append(("put", place, at, least.thing(step[1])))
            elif step == DROP:
                edits.append(("drop", place, at))
            elif not isinstance(inner[1][number], str):
                waiting.append((place + (at,), inner[1][number], step[1]))
            if step[0] != "put":
                number += 1
            if step != DROP:
                at += 1
    return tuple(edits)
