"""Why a document does not fit a schema."""

from turnsfit.lotwalks import TEXT_LOT, SchemaMasks, nested_lots
from turnsfit.nodes import all_things
from turnsfit.places import places_of
from turnsfit.schemas import kinds_of
from turnsfit.stacks import taken
from turnsfit.words import are_ascending_names


def refusal(schema, node):
    things = all_things((node,))
    lots = SchemaMasks(schema).lots_below(things)
    if _has_top(schema, lots[0]):
        return None
    return nested_lots(things, lots)


def _has_top(schema, lot):
    return any([kind in schema.tops for kind in lot])


def check_refusal(schema, node, value):
    told = SchemaMasks(schema)
    rows = _lots_told(schema, node, value)
    if rows is None or _has_top(schema, value[0]):
        return False
    for name, lot, lots in rows:
        if not all([kind in lot or not told.masks[kind].spells_over(lots) for kind in told.kinds_of_name(name)]):
            return False
    return True


def _lots_told(schema, node, value):
    """List for each node its name, its lot and those of its things, as any value tells them; None if it does not."""
    kinds = kinds_of(schema)
    waiting = [(node, value)]
    rows = []
    while waiting:
        inner, pair = waiting.pop()
        if not _is_pair(kinds, inner, pair):
            return None
        inside = list(zip(inner[1], pair[1]))
        if not all([_is_part(kinds, thing, part) for thing, part in inside]):
            return None
        rows.append((inner[0], pair[0], [TEXT_LOT if isinstance(thing, str) else part[0] for thing, part in inside]))
        waiting.extend([(thing, part) for thing, part in inside if not isinstance(thing, str)])
    return rows


def _is_part(kinds, thing, value):
    """Tell whether any value stands rightly for a thing, whatever is told of what stands in it."""
    if isinstance(thing, str):
        return isinstance(value, str) and value == ""
    return _is_pair(kinds, thing, value)


def _is_pair(kinds, node, value):
    """Tell whether any value is ascending types, and a tuple with as many things as stand in the node."""
    if not isinstance(value, tuple) or len(value) != 2:
        return False
    lot, parts = value
    if not are_ascending_names(lot) or not all([kind in kinds for kind in lot]):
        return False
    return isinstance(parts, tuple) and len(parts) == len(node[1])


def bar(schema, node):
    told = SchemaMasks(schema)
    things = all_things((node,))
    lots = told.lots_below(things)
    found = first_bars(things, lots)
    if found:
        name = things[found[0]][0]
        return (places_of(node)[found[0]], "row" if told.kinds_of_name(name) else "name")
    return None if _has_top(schema, lots[0]) else ((), "top")


def first_bars(things, lots):
    """List the numbers of the nodes with an empty lot in which no thing has one, in the order of reading."""
    made = []
    found = []
    for at in range(len(things) - 1, -1, -1):
        is_empty_inside = False
        if not isinstance(things[at], str):
            is_empty_inside = any(taken(made, len(things[at][1])))
        if not lots[at] and not is_empty_inside:
            found.append(at)
        made.append(not lots[at])
    return found[::-1]
