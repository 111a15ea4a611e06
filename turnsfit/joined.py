"""Schemas put together, and whether all documents of one fit another one."""

from turnsfit.beside import Beside
from turnsfit.escapes import Escapes
from turnsfit.formulas import filled
from turnsfit.rowwalks import RowWalk, walk_of
from turnsfit.schemas import Schema, name_for
from turnsfit.walkschemas import schema_of_walks
from turnsfit.words import numbered_name


def either_of(one, other):
    return united(one, other)[0]


def united(one, other):
    """Tell a schema of what fits one of two others, and the dicts of the new names of the types of both."""
    first = {kind: numbered_name(at) for at, (kind, _, _) in enumerate(one.types)}
    second = {kind: numbered_name(at + len(first)) for at, (kind, _, _) in enumerate(other.types)}
    triples = sorted(_renamed(one, first) + _renamed(other, second), key=lambda triple: triple[0])
    tops = [first[kind] for kind in one.tops] + [second[kind] for kind in other.tops]
    return (Schema(tuple(triples), tuple(sorted(tops))), (first, second))


def _renamed(schema, names):
    """List the types of a schema with new names."""
    pairs = [(kind, ("one", names[kind])) for kind in names]
    return [(names[kind], name, filled(formula, pairs)) for kind, name, formula in schema.types]


def both_of(one, other):
    return paired(one, other)[0]


def paired(one, other):
    """Tell a schema of what fits two others, and a dict of the pair of types of each of its types."""
    first = {kind: walk_of(formula) for kind, _, formula in one.types}
    second = {kind: walk_of(formula) for kind, _, formula in other.types}
    names = {}
    for kind, name, _ in one.types:
        for other_kind, other_name, _ in other.types:
            if name == other_name:
                names[kind, other_kind] = numbered_name(len(names))
    rows = [(names[pair], name_for(one, pair[0]), _both_walk(first[pair[0]], second[pair[1]], names)) for pair in names]
    tops = [names[pair] for pair in names if pair[0] in one.tops and pair[1] in other.tops]
    return (schema_of_walks(rows, tops), {names[pair]: pair for pair in names})


def _both_walk(one, other, names):
    """Make the walk through rows of letters of pairs, told by a dict of their names, that two walks read at once."""
    queue = [(0, 0)]
    numbers = {(0, 0): 0}
    nexts = []
    while len(nexts) < len(queue):
        first, second = queue[len(nexts)]
        after = []
        for letter, state in one.nexts[first]:
            for other_letter, other_state in other.nexts[second]:
                found = "" if letter == other_letter == "" else names.get((letter, other_letter))
                if found is not None:
                    pair = (state, other_state)
                    if pair not in numbers:
                        numbers[pair] = len(queue)
                        queue.append(pair)
                    after.append((found, numbers[pair]))
        nexts.append(after)
    return RowWalk(nexts, [one.ends[first] and other.ends[second] for first, second in queue])


def but_not(one, other):
    beside = Beside(one, other)
    classes = beside.sort_classes()
    letters = [numbered_name(number) for number in classes]
    rows = []
    for number in range(len(set(classes))):
        chosen = [sort for sort, own in enumerate(classes) if own == number]
        kind = beside.told[chosen[0]][0]
        rows.append((numbered_name(number), name_for(one, kind), beside.walk_through(chosen, letters)))
    return schema_of_walks(rows, sorted({letters[sort] for sort in beside.escaping()}))


def all_but(schema, names):
    return but_not(_all_of(names), schema)


def _all_of(names):
    """Make the schema of all documents whose nodes have some names."""
    known = sorted(set(names))
    kinds = [("one", name) for name in known]
    formula = ("star", ("either", tuple([("text",)] + kinds)))
    return Schema(tuple([(name, name, formula) for name in known]), tuple(known))


def is_within(one, other):
    return Escapes(one, other).least_escape()
