"""Documents that are kept, edited, and judged anew only where an edit counts."""

from turnsfit.edits import done, need_edit
from turnsfit.lots import wanted_letters_of
from turnsfit.lotwalks import TEXT_LOT, SchemaMasks
from turnsfit.nodes import all_things, built
from turnsfit.places import places_of
from turnsfit.refusals import first_bars


class Kept:
    """Holds a document, and for each thing in it a pair of its lot and the pairs of the things in it."""

    def __init__(self, schema, node):
        self.schema = schema
        self._told = SchemaMasks(schema)
        self._node = node
        self._judged = self._judged_below(node)
        self._past = []
        self._later = []

    def _judged_below(self, thing):
        return built(thing, lambda text: (TEXT_LOT, ()), self._judged_above)

    def _judged_above(self, name, pairs):
        return (self._told.lot_over(name, [lot for lot, _ in pairs]), tuple(pairs))

    def node_now(self):
        return self._node

    def do(self, edit):
        need_edit(self._node, edit)
        node = done(self._node, edit)
        judged, many = self._behind(node, edit)
        self._past.append((edit, self._node, self._judged))
        self._later = []
        self._node = node
        self._judged = judged
        return many

    def _behind(self, node, edit):
        """Tell the pair of the document behind an edit, and how many nodes were judged for it."""
        word, place, at = edit[:3]
        if word == "say":
            return (self._judged, 0)
        around = self._pairs_down(place)
        parts = around[-1][1]
        many = 0
        if word == "put":
            many = len([thing for thing in all_things((edit[3],)) if not isinstance(thing, str)])
            parts = parts[:at] + (self._judged_below(edit[3]),) + parts[at:]
        elif word == "drop":
            parts = parts[:at] + parts[at + 1:]
        lots_change = True
        names = self._names_down(node, place)
        for depth in range(len(place), -1, -1):
            lot = around[depth][0]
            if lots_change:
                many += 1
                lot = self._told.lot_over(names[depth], [inner for inner, _ in parts])
                lots_change = lot != around[depth][0]
            pair = (lot, parts)
            if depth > 0:
                number = place[depth - 1]
                beside = around[depth - 1][1]
                parts = beside[:number] + (pair,) + beside[number + 1:]
        return (pair, many)

    def _pairs_down(self, place):
        """List the pairs of the nodes from the top down to a place."""
        pairs = [self._judged]
        for number in place:
            pairs.append(pairs[-1][1][number])
        return pairs

    def _names_down(self, node, place):
        names = [node[0]]
        for number in place:
            node = node[1][number]
            names.append(node[0])
        return names

    def undo(self):
        return self._go_back(self._past, self._later)

    def redo(self):
        return self._go_back(self._later, self._past)

    def _go_back(self, gone, ahead):
        """Go to the last of what is gone, from where one can come back; tell whether there was any."""
        if not gone:
            return False
        edit, node, judged = gone.pop()
        ahead.append((edit, self._node, self._judged))
        self._node = node
        self._judged = judged
        return True

    def edits_now(self):
        return tuple([edit for edit, _, _ in self._past])

    def _lots(self):
        """List the lots of all things in the order of reading."""
        waiting = [self._judged]
        lots = []
        while waiting:
            lot, parts = waiting.pop()
            lots.append(lot)
            waiting.extend(parts[::-1])
        return lots

    def lots_now(self):
        return tuple(self._lots())

    def wanted_now(self):
        return tuple(wanted_letters_of(self._told, all_things((self._node,)), self._lots()))

    def fits(self):
        return self._has_top(self._judged)

    def _has_top(self, pair):
        return any([kind in self.schema.tops for kind in pair[0]])

    def bars(self):
        lots = self._lots()
        if lots[0]:
            return () if self.fits() else ((),)
        places = places_of(self._node)
        return tuple([places[at] for at in first_bars(all_things((self._node,)), lots)])

    def can(self, edit):
        need_edit(self._node, edit)
        return self._has_top(self._behind(done(self._node, edit), edit)[0])

    def twin(self):
        other = Kept(self.schema, self._node)
        other.take_over(self._judged, self._past, self._later)
        return other

    def take_over(self, judged, past, later):
        """Go on with what another one has judged, done and undone."""
        self._judged = judged
        self._past = list(past)
        self._later = list(later)
