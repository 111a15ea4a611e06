"""Documents walked with the types of a schema: from below, the lots of all things."""

from turnsfit.nodes import all_things
from turnsfit.spotmasks import SpotMasks
from turnsfit.stacks import taken

TEXT_LOT = ("",)


class SchemaMasks:
    """The formulas of a schema as masks of spots, by types, and the types by names."""

    def __init__(self, schema):
        self.schema = schema
        self.masks = {kind: SpotMasks(formula) for kind, _, formula in schema.types}
        self.named = {}
        for kind, name, _ in schema.types:
            self.named.setdefault(name, []).append(kind)

    def kinds_of_name(self, name):
        return self.named.get(name, [])

    def lot_over(self, name, lots):
        """Tell the types of a name whose formulas spell a row with a letter of each lot."""
        return tuple([kind for kind in self.kinds_of_name(name) if self.masks[kind].spells_over(lots)])

    def lots_below(self, things):
        """List the lots of things that are listed in the order of reading, each with all that stands in it."""
        found = []
        made = []
        for thing in things[::-1]:
            lot = TEXT_LOT
            if not isinstance(thing, str):
                lot = self.lot_over(thing[0], taken(made, len(thing[1])))
            made.append(lot)
            found.append(lot)
        return found[::-1]

    def lot_of(self, node):
        """Tell the types of all givings of a node."""
        return self.lots_below(all_things((node,)))[0]


def numbers_inside(things):
    """List, for things in the order of reading, the numbers of those right in each."""
    inside = [[] for _ in things]
    waiting = []
    for at in range(len(things) - 1, -1, -1):
        if not isinstance(things[at], str):
            inside[at] = taken(waiting, len(things[at][1]))
        waiting.append(at)
    return inside
