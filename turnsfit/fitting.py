"""Which types a node can be given, and whether a document fits a schema."""

from turnsfit.formulas import spells
from turnsfit.givings import Givings
from turnsfit.lotwalks import TEXT_LOT, SchemaMasks
from turnsfit.schemas import formula_for, kinds_named
from turnsfit.spotmasks import SpotMasks


def check_giving(schema, node, value):
    waiting = [(node, value)]
    while waiting:
        inner, giving = waiting.pop()
        if not _is_pair(schema, inner, giving):
            return False
        row = _letters(inner[1], giving[1])
        if row is None or not spells(formula_for(schema, giving[0]), row):
            return False
        waiting.extend([(thing, part) for thing, part in zip(inner[1], giving[1]) if not isinstance(thing, str)])
    return True


def _is_pair(schema, node, value):
    """Tell whether any value is a type of a node's name, and a tuple with as many things as stand in the node."""
    if not isinstance(value, tuple) or len(value) != 2:
        return False
    kind, parts = value
    if not isinstance(kind, str) or kind not in kinds_named(schema, node[0]):
        return False
    return isinstance(parts, tuple) and len(parts) == len(node[1])


def _letters(things, parts):
    """List the letters of parts of a giving; None where one is not right for its thing."""
    row = []
    for thing, part in zip(things, parts):
        letter = part
        if not isinstance(thing, str):
            if not isinstance(part, tuple) or len(part) == 0 or part[0] == "":
                return None
            letter = part[0]
        if not isinstance(letter, str) or (isinstance(thing, str) and letter != ""):
            return None
        row.append(letter)
    return row


def check_typing(schema, node, value):
    return check_giving(schema, node, value) and value[0] in schema.tops


def chosen_row(formula, lots):
    masks = SpotMasks(formula)
    ways = masks.ways_on(lots)
    mask = 1 << masks.start
    if mask & ways[0] == 0:
        return None
    row = []
    for lot, rest in zip(lots, ways[1:]):
        after = masks.behind(mask) & rest
        letter = [other for other in lot if after & masks.fitting((other,))][0]
        row.append(letter)
        mask = after & masks.fitting((letter,))
    return tuple(row)


def types_over(schema, name, lots):
    return SchemaMasks(schema).lot_over(name, lots)


def lot_of_thing(schema, thing):
    return TEXT_LOT if isinstance(thing, str) else types_of(schema, thing)


def types_of(schema, node):
    return SchemaMasks(schema).lot_of_node(node)


def fits(schema, node):
    return any([kind in schema.tops for kind in types_of(schema, node)])


def giving_of(schema, node, kind):
    found = Givings(schema, node)
    givings = found.first(1, [kind] if kind in found.lots[0] else [])
    return givings[0] if givings else None


def typings_of(schema, node, most):
    found = Givings(schema, node)
    return tuple(found.first(most, [kind for kind in found.lots[0] if kind in schema.tops]))


def typing_of(schema, node):
    found = typings_of(schema, node, 1)
    return found[0] if found else None
