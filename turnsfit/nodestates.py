"""The states of a schema's nodes as they grow."""

from turnsfit.alike import parted
from turnsfit.schemas import kinds_named
from turnsfit.spotmasks import SpotMasks


class Growth:
    """All states of nodes with some names.

    A state tells, for each type, at which spots of its formula a row of the
    things so far may be read. A node in another one counts by its lot alone:
    by the types whose formula spells a row of all its things.
    """

    def __init__(self, schema):
        self.schema = schema
        self.kinds = [triple[0] for triple in schema.types]
        self.masks = [SpotMasks(triple[2]) for triple in schema.types]
        self.following = [{} for _ in self.kinds]
        self.numbers = {}
        self.states = []
        self.lot_numbers = {}
        self.lots = []
        self.lot_fitting = []
        self.text_fitting = self._fitting(("",))
        self.lot_of = []
        self.after_text = []
        self.after_lots = []

    def begin(self, name):
        """Tell the number of the state of a node with nothing in it."""
        named = kinds_named(self.schema, name)
        state = [1 << masks.start if kind in named else 0 for kind, masks in zip(self.kinds, self.masks)]
        return self._number_of(tuple(state))

    def _number_of(self, state):
        if state not in self.numbers:
            self.numbers[state] = len(self.states)
            self.states.append(state)
            self.after_lots.append([])
            self.lot_of.append(self._lot_number(state))
        return self.numbers[state]

    def _lot_number(self, state):
        lot = tuple([kind for kind, masks, mask in zip(self.kinds, self.masks, state) if mask & masks.ends])
        if lot not in self.lot_numbers:
            self.lot_numbers[lot] = len(self.lots)
            self.lots.append(lot)
            self.lot_fitting.append(self._fitting(lot))
        return self.lot_numbers[lot]

    def _fitting(self, lot):
        """List, for each type, the spots at which one of the letters of a lot is read."""
        return [masks.fitting(lot) for masks in self.masks]

    def finish(self):
        """Find all states, and for each of them the one behind a text and behind each lot."""
        many = -1
        while many < len(self.states) + len(self.lots):
            many = len(self.states) + len(self.lots)
            known = len(self.states)
            for at in range(known):
                self._go_on(at)

    def _go_on(self, at):
        after = self.after_lots[at]
        if len(self.after_text) > at and len(after) == len(self.lots):
            return
        following = self._following(self.states[at])
        if len(self.after_text) == at:
            self.after_text.append(self._number_behind(following, self.text_fitting))
        while len(after) < len(self.lots):
            after.append(self._number_behind(following, self.lot_fitting[len(after)]))

    def _following(self, state):
        """List, for each type, the spots right behind those of a state."""
        found = []
        for number, mask in enumerate(state):
            known = self.following[number]
            if mask not in known:
                known[mask] = self.masks[number].behind(mask)
            found.append(known[mask])
        return found

    def _number_behind(self, following, fitting):
        return self._number_of(tuple([spots & fit for spots, fit in zip(following, fitting)]))

    def is_top(self, lot):
        """Tell whether nodes with the lot of a number fit."""
        return any([kind in self.schema.tops for kind in self.lots[lot]])

    def classes(self):
        """List a class for each state: the fewest classes of which a table can be made."""
        many = len(self.states)
        kinds = [2] * many
        nexts = []
        for at, after in enumerate(self.after_lots):
            nexts.append([many + self.lot_of[at], self.after_text[at]] + after)
        # Lots are put together likewise: alike are those behind which all
        # states go on alike, and which both fit or do not fit as documents.
        for lot in range(len(self.lots)):
            kinds.append(1 if self.is_top(lot) else 0)
            nexts.append([after[lot] for after in self.after_lots])
        return parted(kinds, nexts)[:many]
