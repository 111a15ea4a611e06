"""Shapes that fit, counted and numbered, and how many typings a document has."""

from turnsfit.leastnodes import largest
from turnsfit.lotwalks import SchemaMasks
from turnsfit.nodes import all_things
from turnsfit.shapewalks import ShapeWalk
from turnsfit.stacks import taken


def many_of_size(schema, size):
    return ShapeWalk(schema).counts.many(size)


def shapes_of(schema, size):
    walk = ShapeWalk(schema)
    return tuple([walk.shape(size, number) for number in range(walk.counts.many(size))])


def node_at(schema, number):
    walk = ShapeWalk(schema)
    most = largest(schema)
    size = 1
    while most is None or size <= most:
        many = walk.counts.many(size)
        if number < many:
            return walk.shape(size, number)
        number -= many
        size += 1
    return None


def shape_number(schema, node):
    things = all_things((node,))
    walk = ShapeWalk(schema)
    if not walk.takes(node) or any([isinstance(thing, str) and thing != "" for thing in things]):
        return None
    smaller = [walk.counts.many(size) for size in range(1, len(things))]
    return sum(smaller) + walk.number(node)


def many_typings(schema, node):
    told = SchemaMasks(schema)
    made = []
    for thing in all_things((node,))[::-1]:
        if isinstance(thing, str):
            made.append({"": 1})
        else:
            made.append(_many_givings(told, thing[0], taken(made, len(thing[1]))))
    return sum([many for kind, many in made[0].items() if kind in schema.tops])


def _many_givings(told, name, inner):
    """Give each type that a node can be given how many givings with it there are."""
    found = {}
    for kind in told.kinds_of_name(name):
        masks = told.masks[kind]
        # Rows of letters lead each to one set of spots, so none counts twice.
        counts = {1 << masks.start: 1}
        for letters in inner:
            counts = _read_on(masks, counts, letters)
        many = sum([count for mask, count in counts.items() if mask & masks.ends])
        if many > 0:
            found[kind] = many
    return found


def _read_on(masks, counts, letters):
    found = {}
    for mask, count in counts.items():
        for letter, many in letters.items():
            after = masks.read(mask, (letter,))
            if after:
                found[after] = found.get(after, 0) + count * many
    return found
