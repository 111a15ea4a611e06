"""The givings of a document by a schema, one after another as they ascend."""

from turnsfit.lotwalks import SchemaMasks, numbers_inside
from turnsfit.nodes import all_things
from turnsfit.stacks import taken


class Givings:
    """Finds the first givings of a document.

    All givings of a document have the same shape, so they ascend as the rows
    of their types do, taken in the order of reading. A type is chosen for a
    thing only where the rest can be given types too: so none is chosen in vain.
    """

    def __init__(self, schema, node):
        told = SchemaMasks(schema)
        self.masks = told.masks
        self.things = all_things((node,))
        self.lots = told.lots_below(self.things)
        self.inside = numbers_inside(self.things)
        self.above = [None] * len(self.things)
        for number, inner in enumerate(self.inside):
            for place, at in enumerate(inner):
                self.above[at] = (number, place)
        self.ways = {}
        self.chosen = [None] * len(self.things)
        self.spots = [0] * len(self.things)

    def narrow(self, number, kinds):
        """Give the thing with a number just types of some, and the nodes around it those that go with these."""
        self.lots[number] = tuple([kind for kind in self.lots[number] if kind in kinds])
        while self.above[number] is not None:
            number = self.above[number][0]
            lots = [self.lots[at] for at in self.inside[number]]
            self.lots[number] = tuple([kind for kind in self.lots[number] if self.masks[kind].spells_over(lots)])

    def first(self, most, kinds):
        """List the first so many givings with one of some ascending types of the document."""
        found = []
        left = [[] for _ in self.things]
        left[0] = list(kinds)[::-1]
        at = 0
        while at >= 0 and len(found) < most:
            if not left[at]:
                at -= 1
                continue
            self._choose(at, left[at].pop())
            if at + 1 == len(self.things):
                found.append(self._giving())
            else:
                at += 1
                left[at] = self._options(at)[::-1]
        return found

    def _choose(self, at, kind):
        """Give a thing a type: note where the rows of the first thing in it, and of that behind it, are then."""
        self.chosen[at] = kind
        if self.inside[at]:
            self.spots[self.inside[at][0]] = 1 << self.masks[kind].start
        if self.above[at] is not None:
            number, place = self.above[at]
            if place + 1 < len(self.inside[number]):
                masks = self.masks[self.chosen[number]]
                self.spots[self.inside[number][place + 1]] = masks.read(self.spots[at], (kind,))

    def _options(self, at):
        """List the letters that a thing can have behind all that is chosen ahead of it."""
        number, place = self.above[at]
        kind = self.chosen[number]
        masks = self.masks[kind]
        mask = masks.behind(self.spots[at]) & self._ways(number, kind)[place + 1]
        return [letter for letter in self.lots[at] if mask & masks.fitting((letter,))]

    def _ways(self, number, kind):
        if (number, kind) not in self.ways:
            lots = [self.lots[at] for at in self.inside[number]]
            self.ways[number, kind] = self.masks[kind].ways_on(lots)
        return self.ways[number, kind]

    def _giving(self):
        made = []
        for at in range(len(self.things) - 1, -1, -1):
            kind = self.chosen[at]
            made.append(kind if kind == "" else (kind, tuple(taken(made, len(self.inside[at])))))
        return made[0]
