"""All types that a schema gives to nodes as they grow."""

from turnsfit.leastgrowth import TEXT
from turnsfit.spotmasks import FewSpots


class OtherSide:
    """States of nodes and lots of types, both kept as the bits of integers: of spots, and of types in their order."""

    def __init__(self, schema):
        self._kinds = [kind for kind, _, _ in schema.types]
        self._masks = [FewSpots(formula) for _, _, formula in schema.types]
        self._shifts = []
        shift = 0
        for masks in self._masks:
            self._shifts.append(shift)
            shift += masks.start + 1
        self._begins = {}
        for (_, name, _), masks, shift in zip(schema.types, self._masks, self._shifts):
            self._begins[name] = self._begins.get(name, 0) | (1 << masks.start << shift)
        self._spots_behind = {}
        self._fitting_of = {}
        self._lot_of = {}
        self.tops = sum([1 << at for at, kind in enumerate(self._kinds) if kind in schema.tops])

    def begin(self, name):
        return self._begins.get(name, 0)

    def _parts(self, state):
        """List the spots of each type in a state."""
        return [state >> shift & ((1 << (masks.start + 1)) - 1) for masks, shift in zip(self._masks, self._shifts)]

    def behind(self, state, lot):
        """Tell the state behind a node with the types in a lot, or behind a text, for TEXT."""
        if state not in self._spots_behind:
            parts = list(zip(self._masks, self._parts(state), self._shifts))
            self._spots_behind[state] = sum([masks.behind(part) << shift for masks, part, shift in parts])
        if lot not in self._fitting_of:
            letters = [""] if lot == TEXT else [kind for at, kind in enumerate(self._kinds) if lot >> at & 1]
            fitting = [masks.fitting(letters) << shift for masks, shift in zip(self._masks, self._shifts)]
            self._fitting_of[lot] = sum(fitting)
        return self._spots_behind[state] & self._fitting_of[lot]

    def lot(self, state):
        if state not in self._lot_of:
            parts = self._parts(state)
            ends = [at for at, masks in enumerate(self._masks) if parts[at] & masks.ends]
            self._lot_of[state] = sum([1 << at for at in ends])
        return self._lot_of[state]
