"""The least and the greatest documents of schemas, and sizes that no node is below."""

from turnsfit.alive import trimmed
from turnsfit.formulaparts import own_letter, worked_out
from turnsfit.formulas import letters_of
from turnsfit.schemas import kinds_of
from turnsfit.words import is_number

# Texts come ahead of all nodes.
TEXT_RANK = -1


class LeastNodes:
    """The least nodes of all types of a schema.

    A least node has a least row of its type's formula in it, first by size,
    then by order. What is least of a formula is made of what is least of its
    parts: two rows of one size never go on from one another, so where they
    part first tells which comes first, whatever stands behind.
    """

    def __init__(self, schema):
        self.schema = schema
        self._sizes = _least_sizes(schema)
        self._ranks = {"": TEXT_RANK}
        self._nodes = {"": ""}
        self._keys = {}
        for size in sorted(set([self._sizes[kind] for kind in kinds_of(schema) if kind in self._sizes])):
            self._settle(size)

    def _settle(self, size):
        """Find the least nodes of a size: what stands in them is less, so it is known and ranked."""
        for kind, name, formula in self.schema.types:
            if self._sizes.get(kind) == size:
                _, _, row = worked_out(formula, lambda part, found: self._row_above(part, found, size))
                self._keys[kind] = (name, row)
                self._nodes[kind] = (name, tuple([self._nodes[letter] for letter in row]))
        keys = {kind: (name, self._ranked(row)) for kind, (name, row) in self._keys.items()}
        ranks = {key: rank for rank, key in enumerate(sorted(set(list(keys.values()))))}
        for kind, key in keys.items():
            self._ranks[kind] = ranks[key]

    def _ranked(self, row):
        return tuple([self._ranks[letter] for letter in row])

    def _row_above(self, formula, found, size):
        """Tell the least row that a formula spells: its size, the ranks of its letters, and the letters.

        None for what is not less than a size.
        """
        letter = own_letter(formula)
        word = formula[0]
        if letter is not None:
            known = self._sizes.get(letter)
            return None if known is None or known >= size else (known, (self._ranks[letter],), (letter,))
        if word in ("empty", "star", "maybe"):
            return (0, (), ())
        if word == "some":
            return found[0]
        if word == "either":
            return min([row for row in found if row is not None], default=None)
        return _joined_rows(found)

    def least_of_kind(self, kind):
        """Tell the least node of a type, None for what is no type that is alive."""
        return None if kind == "" else self._nodes.get(kind)

    def letter_sizes(self):
        """Give each letter the size of its least thing, None if there is none."""
        found = {kind: self._sizes.get(kind) for kind in kinds_of(self.schema)}
        found[""] = self._sizes[""]
        return found

    def thing(self, letter):
        """Tell the least thing of a letter."""
        return self._nodes[letter]

    def document(self, tops):
        known = [kind for kind in tops if kind in self._sizes]
        return self._nodes[min(known, key=self._order_key)] if known else None

    def _order_key(self, kind):
        return (self._sizes[kind], self._ranks[kind])


def _joined_rows(found):
    """Put least rows one behind another, None if one of them is."""
    size = 0
    ranks = []
    letters = []
    for row in found:
        if row is None:
            return None
        size += row[0]
        ranks.extend(row[1])
        letters.extend(row[2])
    return (size, tuple(ranks), tuple(letters))


def _least_sizes(schema):
    """Give the letter of texts, and each type that is alive, the size of its least thing."""
    sizes = {"": 1}
    changed = True
    while changed:
        changed = False
        for kind, _, formula in schema.types:
            least = _least_sum(formula, sizes)
            if least is not None and (kind not in sizes or least + 1 < sizes[kind]):
                sizes[kind] = least + 1
                changed = True
    return sizes


def least_node(schema, kind):
    return LeastNodes(schema).least_of_kind(kind)


def least_document(schema):
    return LeastNodes(schema).document(schema.tops)


def check_sizes(schema, value):
    if not isinstance(value, tuple) or len(value) != len(schema.types) or not all([is_number(size) for size in value]):
        return False
    sizes = {kind: size for kind, size in zip(kinds_of(schema), value)}
    sizes[""] = 1
    return all([sizes[kind] <= 1 + _least_sum(formula, sizes) for kind, _, formula in schema.types])


def _least_sum(formula, sizes):
    """Tell the least sum of the letters of a row that a formula spells, None if each row has letters without a size."""
    return worked_out(formula, lambda part, sums: _least_above(part, sums, sizes))


def _least_above(formula, sums, sizes):
    letter = own_letter(formula)
    known = [one for one in sums if one is not None]
    if letter is not None:
        return sizes.get(letter)
    if formula[0] == "row":
        return sum(known) if len(known) == len(sums) else None
    if formula[0] == "either":
        return min(known, default=None)
    return sums[0] if formula[0] == "some" else 0


def sizes_paper(schema):
    return raised_sizes(schema, 0)


def raised_sizes(schema, more):
    """Tell least sizes of alive types; of others a number that is not below any of these, and so much more."""
    sizes = LeastNodes(schema).letter_sizes()
    great = sum([size for size in list(sizes.values()) if size is not None]) + more
    return tuple([great if sizes[kind] is None else sizes[kind] for kind in kinds_of(schema)])


def largest(schema):
    left = list(trimmed(schema).types)
    if not left:
        return -1
    tops = schema.tops
    known = {"": 1}
    many = -1
    while many < len(known):
        many = len(known)
        for kind, _, formula in left:
            if kind not in known and all([letter in known for letter in letters_of(formula)]):
                inside = worked_out(formula, lambda part, sums: _most_above(part, sums, known))
                if inside is None:
                    return None
                known[kind] = 1 + inside
    if not all([kind in known for kind, _, _ in left]):
        return None
    return max([known[kind] for kind in tops if kind in known])


def _most_above(formula, sums, sizes):
    """Tell the greatest sum of the letters of a row, None if there is none."""
    letter = own_letter(formula)
    if letter is not None:
        return sizes[letter]
    if any([one is None for one in sums]):
        return None
    if formula[0] == "row":
        return sum(sums)
    if formula[0] in ("star", "some"):
        return 0 if sums[0] == 0 else None
    return max(sums, default=0)
