"""The letters of things that are wanted in the holes of frames."""

from turnsfit.fitting import lot_of_thing
from turnsfit.lotwalks import SchemaMasks
from turnsfit.nodes import all_things


def wanted_letters(schema, frame):
    told = SchemaMasks(schema)
    letters = tuple(schema.tops)
    for name, ahead, after in frame:
        kinds = [kind for kind in told.kinds_of_name(name) if kind in letters]
        lots = [told.lots_below(all_things((thing,)))[0] for thing in ahead + after]
        letters = told.welcome_inside(kinds, lots, len(ahead))
    return letters


def letter_apart(schema, thing, other):
    one = lot_of_thing(schema, thing)
    second = lot_of_thing(schema, other)
    return min([letter for letter in one + second if (letter in one) != (letter in second)], default=None)
