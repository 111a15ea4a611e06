"""Rows read by the spots of a formula, sets of spots kept as the bits of integers."""

from turnsfit.alike import firsts_of, numbered
from turnsfit.formulaparts import all_formulas, inner_parts, own_letter
from turnsfit.stacks import taken


class SpotMasks:
    """How traces of a formula begin, go on and end.

    Spots are bits; one more spot, behind all others, is where a row has not
    begun yet: so beginning is going on from there, and the row of no letters
    ends there.
    """

    def __init__(self, formula):
        parts = all_formulas(formula)
        self.letters = [own_letter(part) for part in parts if own_letter(part) is not None]
        self.start = len(self.letters)
        self.nexts = [0] * (self.start + 1)
        self.by_letter = {}
        for spot, letter in enumerate(self.letters):
            self.by_letter[letter] = self.by_letter.get(letter, 0) | (1 << spot)
        none, first, last = self._worked_out(parts)
        self.nexts[self.start] = first
        self.ends = last | (1 << self.start) if none else last

    def _worked_out(self, parts):
        """Tell whether no letters are spelled, and the masks of first and last spots."""
        made = []
        spot = self.start
        for part in parts[::-1]:
            if own_letter(part) is not None:
                spot -= 1
                made.append((False, 1 << spot, 1 << spot))
            else:
                made.append(self._around(part[0], taken(made, len(inner_parts(part)))))
        return made[0]

    def _around(self, word, inner):
        if word == "empty":
            return (True, 0, 0)
        if word == "row":
            return self._in_row(inner)
        if word == "either":
            return _side_by_side(inner)
        none, first, last = inner[0]
        if word != "maybe":
            self._link(last, first)
        return (none or word != "some", first, last)

    def _in_row(self, inner):
        none, first, last = inner[0]
        for part_none, part_first, part_last in inner[1:]:
            self._link(last, part_first)
            first = first | part_first if none else first
            last = last | part_last if part_none else part_last
            none = none and part_none
        return (none, first, last)

    def _link(self, last, first):
        for spot in bits_of(last):
            self.nexts[spot] = self.nexts[spot] | first

    def behind(self, mask):
        """Tell the spots right behind any spot of a mask."""
        found = 0
        for spot in bits_of(mask):
            found = found | self.nexts[spot]
        return found

    def read(self, mask, row):
        """Tell the spots to which a row leads from those of a mask."""
        for letter in row:
            mask = self.behind(mask) & self.by_letter.get(letter, 0)
        return mask

    def fitting(self, lot):
        """Tell the spots at which one of the letters of a lot is read."""
        found = 0
        for letter in lot:
            found = found | self.by_letter.get(letter, 0)
        return found

    def read_lots(self, mask, lots):
        """Tell the spots to which rows with a letter of each lot lead from those of a mask."""
        for lot in lots:
            mask = self.behind(mask) & self.fitting(lot)
        return mask

    def spells_over(self, lots):
        """Tell whether a row with a letter of each lot is spelled."""
        return (self.read_lots(1 << self.start, lots) & self.ends) != 0

    def ways_on(self, lots):
        """List, ahead of things and behind each, the spots from which the rest is read, a letter of each lot."""
        found = [self.ends]
        for lot in lots[::-1]:
            found.append(self._ahead(found[-1] & self.fitting(lot)))
        return found[::-1]

    def _ahead(self, mask):
        """Tell the spots right behind which a spot of a mask is."""
        found = 0
        for spot, following in enumerate(self.nexts):
            if following & mask:
                found = found | (1 << spot)
        return found


def _side_by_side(inner):
    none = False
    first = 0
    last = 0
    for part_none, part_first, part_last in inner:
        none = none or part_none
        first = first | part_first
        last = last | part_last
    return (none, first, last)


def bits_of(mask):
    """List the numbers of the bits of a mask, ascending."""
    found = []
    while mask:
        low = mask & -mask
        found.append(low.bit_length() - 1)
        mask = mask ^ low
    return found


class FewSpots(SpotMasks):
    """The same rows, with spots put together at which one letter is read, and behind which all is alike."""

    def __init__(self, formula):
        SpotMasks.__init__(self, formula)
        classes = self._classes()
        firsts = firsts_of(classes)
        self.nexts = [self._mask_of([classes[other] for other in bits_of(self.nexts[first])]) for first in firsts]
        self.ends = self._mask_of([classes[other] for other in bits_of(self.ends)])
        self.letters = [self.letters[first] for first in firsts[:-1]]
        self.start = len(self.letters)
        self.by_letter = {}
        for spot, letter in enumerate(self.letters):
            self.by_letter[letter] = self.by_letter.get(letter, 0) | (1 << spot)

    def _mask_of(self, spots):
        mask = 0
        for spot in spots:
            mask = mask | (1 << spot)
        return mask

    def _classes(self):
        """List a class for each spot, that of the start behind all others."""
        is_end = [(self.ends >> spot) & 1 for spot in range(self.start + 1)]
        classes = numbered(list(zip(self.letters + [None], is_end)))
        many = 0
        while many < max(classes) + 1:
            many = max(classes) + 1
            nexts = [tuple(sorted({classes[spot] for spot in bits_of(mask)})) for mask in self.nexts]
            classes = numbered(list(zip(classes, nexts)))
        return classes
