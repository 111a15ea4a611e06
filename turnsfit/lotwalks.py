"""Documents walked with the types of a schema: from below, the lots of all things."""

from turnsfit.nodes import all_things
from turnsfit.spotmasks import SpotMasks, bits_of
from turnsfit.stacks import taken

TEXT_LOT = ("",)


class SchemaMasks:
    """The formulas of a schema as masks of spots, by types, and the types by names."""

    def __init__(self, schema):
        self.schema = schema
        self.masks = {kind: SpotMasks(formula) for kind, _, formula in schema.types}
        self.named = {}
        for kind, name, _ in schema.types:
            self.named.setdefault(name, []).append(kind)

    def kinds_of_name(self, name):
        return self.named.get(name, [])

    def lot_over(self, name, lots):
        """Tell the types of a name whose formulas spell a row with a letter of each lot."""
        return tuple([kind for kind in self.kinds_of_name(name) if self.masks[kind].spells_over(lots)])

    def lots_below(self, things):
        """List the lots of things that are listed in the order of reading, each with all that stands in it."""
        found = []
        made = []
        for thing in things[::-1]:
            lot = TEXT_LOT
            if not isinstance(thing, str):
                lot = self.lot_over(thing[0], taken(made, len(thing[1])))
            made.append(lot)
            found.append(lot)
        return found[::-1]

    def wanted_inside(self, kinds, lots):
        """List for each thing of a row with some lots the letters there that one of some types spells with the rest."""
        found = [{} for _ in lots]
        for kind in kinds:
            masks = self.masks[kind]
            ways = masks.ways_on(lots)
            mask = 1 << masks.start
            for lot, rest, letters in zip(lots, ways[1:], found):
                _note_letters(letters, masks, masks.behind(mask) & rest)
                mask = masks.read_lots(mask, (lot,))
        return [tuple(sorted(letters)) for letters in found]

    def welcome_inside(self, kinds, lots, at):
        """Tell the letters of one more thing, put ahead of that with a number, that one of some types spells."""
        found = {}
        for kind in kinds:
            masks = self.masks[kind]
            mask = masks.read_lots(1 << masks.start, lots[:at])
            _note_letters(found, masks, masks.behind(mask) & masks.ways_on(lots[at:])[0])
        return tuple(sorted(found))

    def lot_of_node(self, node):
        """Tell the types of all givings of a node."""
        return self.lots_below(all_things((node,)))[0]


def _note_letters(letters, masks, mask):
    """Note the letters at spots in a dict."""
    for spot in bits_of(mask):
        letters[masks.letters[spot]] = True


def numbers_inside(things):
    """List, for things in the order of reading, the numbers of those right in each."""
    inside = [[] for _ in things]
    waiting = []
    for at in range(len(things) - 1, -1, -1):
        if not isinstance(things[at], str):
            inside[at] = taken(waiting, len(things[at][1]))
        waiting.append(at)
    return inside


def nested_lots(things, lots):
    """Tell lots of types nested as a document, for its things and their lots in the order of reading."""
    made = []
    for thing, lot in zip(things[::-1], lots[::-1]):
        made.append("" if isinstance(thing, str) else (tuple(lot), tuple(taken(made, len(thing[1])))))
    return made[0]
