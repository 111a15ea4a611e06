"""Walks through documents, from below and from above: the types of all nodes, and the answers to asks."""

from turnsfit.lotwalks import SchemaMasks, nested_lots, numbers_inside
from turnsfit.nodes import all_things
from turnsfit.places import places_of


def from_below(schema, node):
    things = all_things((node,))
    return nested_lots(things, SchemaMasks(schema).lots_below(things))


def from_both(schema, node):
    things = all_things((node,))
    return nested_lots(things, _lots_of_typings(schema, things))


def _lots_of_typings(schema, things):
    """List for the things of a document the types that they have in some typing of it."""
    told = SchemaMasks(schema)
    lots = told.lots_below(things)
    lots[0] = tuple([kind for kind in lots[0] if kind in schema.tops])
    for number, inner in enumerate(numbers_inside(things)):
        if inner:
            rows = told.wanted_inside(lots[number], [lots[at] for at in inner])
            for at, letters in zip(inner, rows):
                lots[at] = tuple([letter for letter in lots[at] if letter in letters])
    return lots


def answers(ask, node):
    things = all_things((node,))
    lots = _lots_of_typings(ask.schema, things)
    return tuple([place for place, lot in zip(places_of(node), lots) if any([kind in ask.marked for kind in lot])])
