"""Ways: the names from the top of a document down to a node, and the types to which they lead."""

from turnsfit.alive import trimmed
from turnsfit.formulas import filled, letters_of
from turnsfit.schemas import Schema, formula_for, kinds_of, name_for
from turnsfit.words import numbered_name


def way_of(node, place):
    way = [node[0]]
    for number in place:
        node = node[1][number]
        way.append(node[0])
    return tuple(way)


def types_by_way(schema, way):
    kinds = _of_name(schema, schema.tops, way[0])
    for name in way[1:]:
        kinds = _kinds_under(schema, kinds, name)
    return kinds


def _of_name(schema, letters, name):
    return tuple([kind for kind in letters if kind != "" and name_for(schema, kind) == name])


def _kinds_under(schema, kinds, name):
    """Tell the types of a name in the formulas of some types."""
    letters = {letter: True for kind in kinds for letter in letters_of(formula_for(schema, kind))}
    return _of_name(schema, sorted(letters), name)


def rivals(schema):
    found = _least_rivals(schema, schema.tops)
    if found is not None:
        return ("",) + found
    for kind in kinds_of(schema):
        found = _least_rivals(schema, letters_of(formula_for(schema, kind)))
        if found is not None:
            return (kind,) + found
    return None


def _least_rivals(schema, letters):
    """Tell the least two types of one name among some letters, None if there are none."""
    kinds = [letter for letter in letters if letter != ""]
    pairs = [(one, other) for one in kinds for other in kinds
             if one < other and name_for(schema, one) == name_for(schema, other)]
    return min(pairs, default=None)


def is_plain_schema(schema):
    return rivals(schema) is None


def plain_hull(schema):
    few = trimmed(schema)
    names = {kind: name for kind, name, _ in few.types}
    lots = _by_name(names, few.tops)
    tops = list(lots)
    queue = list(tops)
    numbers = {lot: number for number, lot in enumerate(queue)}
    made = []
    while len(made) < len(queue):
        lot = queue[len(made)]
        under = _by_name(names, sorted({letter for kind in lot for letter in letters_of(formula_for(few, kind))}))
        for other in under:
            if other not in numbers:
                numbers[other] = len(queue)
                queue.append(other)
        pairs = [(kind, ("one", numbered_name(numbers[other]))) for other in under for kind in other]
        made.append(_either([filled(formula_for(few, kind), pairs) for kind in lot]))
    triples = [(numbered_name(at), names[lot[0]], made[at]) for at, lot in enumerate(queue)]
    triples = sorted(triples, key=lambda triple: triple[0])
    return Schema(tuple(triples), tuple(sorted([numbered_name(numbers[lot]) for lot in tops])))


def _by_name(names, letters):
    """List the lots of types among some letters, one for each name."""
    found = {}
    for letter in letters:
        if letter != "":
            found.setdefault(names[letter], []).append(letter)
    return [tuple(lot) for lot in list(found.values())]


def _either(formulas):
    found = []
    for formula in formulas:
        if formula not in found:
            found.append(formula)
    return found[0] if len(found) == 1 else ("either", tuple(found))
