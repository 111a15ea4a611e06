"""The lots of things in documents, and the letters that are wanted in their places."""

from turnsfit.edits import done
from turnsfit.fitting import fits
from turnsfit.lotwalks import SchemaMasks, numbers_inside
from turnsfit.nodes import all_things
from turnsfit.places import place_number


def lots_of(schema, node):
    return tuple(SchemaMasks(schema).lots_below(all_things((node,))))


def wanted_of(schema, node):
    things = all_things((node,))
    told = SchemaMasks(schema)
    return tuple(wanted_letters_of(told, things, told.lots_below(things)))


def wanted_letters_of(told, things, lots):
    """List the letters wanted in the places of things that are listed with their lots in the order of reading."""
    inside = numbers_inside(things)
    wanted = [()] * len(things)
    wanted[0] = tuple(told.schema.tops)
    for at, inner in enumerate(inside):
        if inner:
            kinds = _wanted_kinds(told, things[at], wanted[at])
            rows = told.wanted_inside(kinds, [lots[number] for number in inner])
            for number, letters in zip(inner, rows):
                wanted[number] = letters
    return wanted


def _wanted_kinds(told, node, letters):
    return [kind for kind in told.kinds_of_name(node[0]) if kind in letters]


def welcome(schema, node, place, at):
    things = all_things((node,))
    told = SchemaMasks(schema)
    lots = told.lots_below(things)
    wanted = wanted_letters_of(told, things, lots)
    number = place_number(node, place)
    kinds = _wanted_kinds(told, things[number], wanted[number])
    return told.welcome_inside(kinds, [lots[inner] for inner in numbers_inside(things)[number]], at)


def would_fit(schema, node, edit):
    return fits(schema, done(node, edit))
