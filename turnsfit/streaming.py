"""Readers of marks, that tell at each mark whether a document that fits can still come of it."""

from turnsfit.alive import trimmed
from turnsfit.errors import InvalidSize, Refused
from turnsfit.lotwalks import TEXT_LOT, SchemaMasks
from turnsfit.marks import mark_word

# How far a reader is.
AHEAD = "ahead"
WITHIN = "within"
DONE = "done"
BARRED = "barred"


class Reader:
    """Reads marks one by one.

    For each open node it keeps the types that it may have, each with the
    spots of its formula at which the row of its things may be. Only types of
    some typing of a document are ever asked, so whatever has a type left can
    be gone on with.
    """

    def __init__(self, schema):
        self.schema = schema
        self._told = SchemaMasks(trimmed(schema))
        self._levels = []
        self._state = AHEAD

    def read(self, mark):
        if self._state == BARRED:
            raise Refused(BARRED)
        word = mark_word(mark)
        if word is None:
            raise InvalidSize("mark")
        if word == "open" and self._state != DONE:
            self._enter(mark[1])
        elif word == "text" and self._state == WITHIN:
            self._go_on(TEXT_LOT)
        elif word == "close" and self._state == WITHIN:
            self._leave()
        else:
            self._state = BARRED
        return "on" if self._state == WITHIN else self._state

    def _enter(self, name):
        kinds = self._next_kinds(name)
        level = {kind: 1 << self._told.masks[kind].start for kind in kinds}
        self._levels.append(level)
        self._state = WITHIN if level else BARRED

    def _next_kinds(self, name):
        """List the types of a name that the next node under the last open one may have."""
        named = self._told.kinds_of_name(name)
        if not self._levels:
            return [kind for kind in named if kind in self._told.schema.tops]
        return [kind for kind in named if self._kinds_around(len(self._levels) - 1, (kind,))]

    def _kinds_around(self, depth, lot):
        """List the types of an open node in which a thing with one of the letters of a lot may come next."""
        masks = self._told.masks
        return [kind for kind, mask in self._levels[depth].items() if masks[kind].read_lots(mask, (lot,))]

    def _go_on(self, lot):
        """Read a whole thing with some letters under the last open node."""
        masks = self._told.masks
        kinds = self._kinds_around(len(self._levels) - 1, lot)
        level = self._levels.pop()
        self._levels.append({kind: masks[kind].read_lots(level[kind], (lot,)) for kind in kinds})
        if not kinds:
            self._state = BARRED

    def _leave(self):
        masks = self._told.masks
        level = self._levels.pop()
        lot = [kind for kind, mask in level.items() if mask & masks[kind].ends]
        if not lot:
            self._state = BARRED
        elif self._levels:
            self._go_on(lot)
        else:
            self._state = DONE

    def types_now(self):
        if self._state == BARRED:
            raise Refused(BARRED)
        return tuple([tuple(sorted(level)) for level in self.levels_now()])

    def levels_now(self):
        """List, for each open node, the types that it has in some typing, each with its spots."""
        # A type counts only if a type of the node in this one that counts may
        # come next; those of the last open node all count.
        found = self._levels[-1:]
        for depth in range(len(self._levels) - 2, -1, -1):
            kinds = self._kinds_around(depth, list(found[-1]))
            found.append({kind: self._levels[depth][kind] for kind in kinds})
        return found[::-1]

    def twin(self):
        other = Reader(self.schema)
        other.take_over(self._levels, self._state)
        return other

    def take_over(self, levels, state):
        """Go on from where another reader is."""
        # Levels are replaced, never changed, so both may keep the same ones.
        self._levels = list(levels)
        self._state = state
