"""The least and the greatest documents of schemas, and sizes that no node is below."""

from turnsfit.alive import trimmed
from turnsfit.formulaparts import own_letter, worked_out
from turnsfit.formulas import letters_of
from turnsfit.leastgrowth import TEXT, LeastGrowth
from turnsfit.schemas import kinds_of
from turnsfit.spotmasks import SpotMasks, bits_of
from turnsfit.words import is_number


class LeastNodes:
    """The least nodes of all types of a schema."""

    def __init__(self, schema):
        self.numbers = {kind: number for number, kind in enumerate(kinds_of(schema))}
        self.begins = []
        self.after = []
        self.sorts = []
        for kind, name, formula in schema.types:
            self._add(self.numbers[kind], name, SpotMasks(formula))
        self.growth = LeastGrowth(self.begins, self.after, self.sorts, len(self.numbers))

    def _add(self, number, name, masks):
        """Note the spots of a type as states through which its nodes grow."""
        base = len(self.after)
        things = [TEXT if letter == "" else self.numbers[letter] for letter in masks.letters]
        self.begins.append((name, base + masks.start))
        for spot, mask in enumerate(masks.nexts):
            self.after.append([(things[other], base + other) for other in bits_of(mask)])
            self.sorts.append([number] if (masks.ends >> spot) & 1 else [])

    def least_of_kind(self, kind):
        """Tell the least node of a type, None for what is no type that is alive."""
        return self.growth.nodes[self.numbers[kind]] if kind in self.numbers else None

    def letter_sizes(self):
        """Give each letter the size of its least thing, None if there is none."""
        found = {kind: self.growth.sizes[number] for kind, number in self.numbers.items()}
        found[""] = 1
        return found

    def thing(self, letter):
        """Tell the least thing of a letter."""
        return "" if letter == "" else self.least_of_kind(letter)

    def document(self, tops):
        sort = self.growth.least_sort([self.numbers[kind] for kind in tops])
        return None if sort is None else self.growth.nodes[sort]


def least_node(schema, kind):
    return LeastNodes(schema).least_of_kind(kind)


def least_document(schema):
    return LeastNodes(schema).document(schema.tops)


def check_sizes(schema, value):
    if not isinstance(value, tuple) or len(value) != len(schema.types) or not all([is_number(size) for size in value]):
        return False
    sizes = {kind: size for kind, size in zip(kinds_of(schema), value)}
    sizes[""] = 1
    return all([sizes[kind] <= 1 + _least_sum(formula, sizes) for kind, _, formula in schema.types])


def _least_sum(formula, sizes):
    """Tell the least sum of the letters of a row that a formula spells."""
    return worked_out(formula, lambda part, sums: _least_above(part, sums, sizes))


def _least_above(formula, sums, sizes):
    letter = own_letter(formula)
    if letter is not None:
        return sizes[letter]
    if formula[0] == "row":
        return sum(sums)
    if formula[0] == "either":
        return min(sums)
    return sums[0] if formula[0] == "some" else 0


def sizes_paper(schema):
    return raised_sizes(schema, 0)


def raised_sizes(schema, more):
    """Tell least sizes of alive types; of others a number that is not below any of these, and so much more."""
    sizes = LeastNodes(schema).letter_sizes()
    great = sum([size for size in list(sizes.values()) if size is not None]) + more
    return tuple([great if sizes[kind] is None else sizes[kind] for kind in kinds_of(schema)])


def largest(schema):
    left = list(trimmed(schema).types)
    if not left:
        return -1
    tops = schema.tops
    known = {"": 1}
    many = -1
    while many < len(known):
        many = len(known)
        for kind, _, formula in left:
            if kind not in known and all([letter in known for letter in letters_of(formula)]):
                inside = worked_out(formula, lambda part, sums: _most_above(part, sums, known))
                if inside is None:
                    return None
                known[kind] = 1 + inside
    if not all([kind in known for kind, _, _ in left]):
        return None
    return max([known[kind] for kind in tops if kind in known])


def _most_above(formula, sums, sizes):
    """Tell the greatest sum of the letters of a row, None if there is none."""
    letter = own_letter(formula)
    if letter is not None:
        return sizes[letter]
    if any([one is None for one in sums]):
        return None
    if formula[0] == "row":
        return sum(sums)
    if formula[0] in ("star", "some"):
        return 0 if sums[0] == 0 else None
    return max(sums, default=0)
