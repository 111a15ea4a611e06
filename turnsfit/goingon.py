"""What may come behind marks, and marks that lead on to a document that fits."""

from turnsfit.alive import trimmed
from turnsfit.leastnodes import LeastNodes
from turnsfit.lotwalks import SchemaMasks
from turnsfit.marks import CLOSE, marks_of
from turnsfit.schemas import node_names
from turnsfit.spotmasks import bits_of
from turnsfit.streaming import Reader


def first_bar(schema, marks):
    reader = Reader(schema)
    for at, mark in enumerate(marks):
        if reader.read(mark) == "barred":
            return at
    return None


def _reader_behind(schema, marks):
    """Make a reader that has read some marks, None if it is barred."""
    reader = Reader(schema)
    for mark in marks:
        if reader.read(mark) == "barred":
            return None
    return reader


def next_marks(schema, marks):
    reader = _reader_behind(schema, marks)
    if reader is None:
        return ((), False, False)
    names = [name for name in node_names(schema) if _goes_on(reader, ("open", name))]
    return (tuple(names), _goes_on(reader, ("text", "")), _goes_on(reader, CLOSE))


def _goes_on(reader, mark):
    return reader.twin().read(mark) != "barred"


def going_on(schema, marks):
    least = LeastNodes(schema)
    if len(marks) == 0:
        node = least.document(schema.tops)
        return None if node is None else marks_of(node)
    reader = _reader_behind(schema, marks)
    if reader is None:
        return None
    told = SchemaMasks(trimmed(schema))
    found = []
    for kind, mask in _chain(told, reader.levels_now())[::-1]:
        for letter in _least_rest(told.masks[kind], mask, least.letter_sizes()):
            found.extend([("text", "")] if letter == "" else marks_of(least.least_of_kind(letter)))
        found.append(CLOSE)
    return tuple(found)


def _chain(told, levels):
    """List for each open node a type, and its spots behind the one open in it, such that all go together."""
    chain = []
    for depth, level in enumerate(levels):
        kinds = [kind for kind in sorted(level) if depth == 0 or _reads(told, chain[-1], kind)]
        if depth > 0:
            around, mask = chain.pop()
            chain.append((around, told.masks[around].read(mask, (kinds[0],))))
        chain.append((kinds[0], level[kinds[0]]))
    return chain


def _reads(told, pair, letter):
    """Tell whether a letter can come next in a type at some spots."""
    kind, mask = pair
    return told.masks[kind].read(mask, (letter,)) != 0


def _least_rest(masks, mask, sizes):
    """List the letters of a row of the least size that leads from some spots to an end."""
    costs = _costs_to_end(masks, sizes)
    row = []
    spot = _cheapest(costs, mask)
    while not (masks.ends >> spot) & 1:
        spot = _cheapest(_with_things(masks, costs, sizes), masks.nexts[spot])
        row.append(masks.letters[spot])
    return row


def _cheapest(costs, mask):
    return min([spot for spot in bits_of(mask) if costs[spot] is not None], key=lambda spot: costs[spot])


def _costs_to_end(masks, sizes):
    """List for each spot the least size of what comes behind it up to an end."""
    costs = [0 if (masks.ends >> spot) & 1 else None for spot in range(masks.start + 1)]
    changed = True
    while changed:
        changed = False
        whole = _with_things(masks, costs, sizes)
        for spot, mask in enumerate(masks.nexts):
            known = [whole[other] for other in bits_of(mask) if whole[other] is not None]
            if known and (costs[spot] is None or min(known) < costs[spot]):
                costs[spot] = min(known)
                changed = True
    return costs


def _with_things(masks, costs, sizes):
    """List for each spot the least size of its own thing and of what comes behind it."""
    return [None if cost is None else cost + sizes[letter] for letter, cost in zip(masks.letters, costs)]
