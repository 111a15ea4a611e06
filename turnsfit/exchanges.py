"""Nodes of one way exchanged between documents, and schemas out of which this leads."""

from turnsfit.alive import trimmed
from turnsfit.errors import InvalidPlace
from turnsfit.fitting import chosen_row, fits
from turnsfit.formulas import letters_of
from turnsfit.joined import is_within
from turnsfit.leastnodes import LeastNodes
from turnsfit.nodes import is_node
from turnsfit.places import at_place, node_places, with_thing
from turnsfit.rowwalks import walk_of
from turnsfit.schemas import formula_for, kinds_named
from turnsfit.ways import plain_hull, types_by_way, way_of


def exchanged(node, place, other, where):
    return with_thing(node, place, at_place(other, where))


def plain_or_exchange(schema):
    hull = plain_hull(schema)
    node = is_within(hull, schema)
    if node is None:
        return ("plain", hull)
    # The node is built of documents that fit, one exchange for each node in
    # it: the first one fits, the last one does not, so one exchange leads out.
    maker = WayMaker(schema)
    steps = [(place,) + maker.document(node, place) for place in node_places(node)]
    made = [steps[0][1]]
    for place, other, where in steps[1:]:
        made.append(exchanged(made[-1], place, other, where))
    at = _last_that_fits(schema, made)
    return ("exchange", made[at]) + steps[at + 1]


def _last_that_fits(schema, made):
    """Tell the number of a document that fits, ahead of one that does not: as the first one does, and not the last."""
    first = 0
    last = len(made) - 1
    while last - first > 1:
        middle = (first + last) // 2
        if fits(schema, made[middle]):
            first = middle
        else:
            last = middle
    return first


class WayMaker:
    """Makes documents that fit, in which a node of some way has things with the names that another one's have."""

    def __init__(self, schema):
        self._schema = trimmed(schema)
        self._least = LeastNodes(self._schema)

    def document(self, node, place):
        """Make one for the node at a place of a document of the hull: the document, and the place of its node."""
        way = way_of(node, place)
        things = at_place(node, place)[1]
        lots = [("",) if isinstance(thing, str) else kinds_named(self._schema, thing[0]) for thing in things]
        kind, row = self._typed(types_by_way(self._schema, way), lots)
        made = (way[-1], tuple([self._least.thing(letter) for letter in row]))
        where = ()
        for depth in range(len(way) - 1, 0, -1):
            ahead = types_by_way(self._schema, way[:depth])
            around = [other for other in ahead if kind in letters_of(formula_for(self._schema, other))][0]
            row, at = self._row_with(around, kind)
            inner = [self._least.thing(letter) for letter in row]
            inner[at] = made
            made = (way[depth - 1], tuple(inner))
            where = (at,) + where
            kind = around
        return (made, where)

    def _typed(self, kinds, lots):
        """Tell the first of some types whose formula spells a row with a letter of each lot, and the row."""
        rows = [(kind, chosen_row(formula_for(self._schema, kind), lots)) for kind in kinds]
        return [pair for pair in rows if pair[1] is not None][0]

    def _row_with(self, kind, letter):
        """Tell a shortest row with a letter that the formula of a type spells, and where the letter is in it."""
        walk = walk_of(formula_for(self._schema, kind))
        queue = [(0, (), None)]
        met = {(0, False): True}
        at = 0
        while not (walk.ends[queue[at][0]] and queue[at][2] is not None):
            state, row, place = queue[at]
            at += 1
            for other, after in walk.nexts[state]:
                found = len(row) if place is None and other == letter else place
                if (after, found is not None) not in met:
                    met[after, found is not None] = True
                    queue.append((after, row + (other,), found))
        return queue[at][1:]


def check_exchange(schema, value):
    if not isinstance(value, tuple) or len(value) != 4:
        return False
    node, place, other, where = value
    if not all([is_node(one) and fits(schema, one) for one in (node, other)]):
        return False
    if not _is_node_place(node, place) or not _is_node_place(other, where):
        return False
    return way_of(node, place) == way_of(other, where) and not fits(schema, exchanged(node, place, other, where))


def _is_node_place(node, value):
    """Tell whether any value is the place of a node of a document."""
    try:
        return not isinstance(at_place(node, value), str)
    except InvalidPlace:
        return False
