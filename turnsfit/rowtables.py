"""Row tables: rows read letter by letter, a state behind each."""

from turnsfit.alike import firsts_of, parted
from turnsfit.errors import InvalidTable
from turnsfit.spotmasks import SpotMasks
from turnsfit.words import are_ascending_letters, are_ascending_states, are_states, is_state


class RowTable:
    def __init__(self, letters, nexts, ends):
        self.letters = letters
        self.nexts = nexts
        self.ends = ends

    def __eq__(self, other):
        return (isinstance(other, RowTable) and self.letters == other.letters
                and self.nexts == other.nexts and self.ends == other.ends)


def need_row_table(value):
    if not isinstance(value, RowTable):
        raise InvalidTable(-3)
    if not are_ascending_letters(value.letters):
        raise InvalidTable(-1)
    if not isinstance(value.nexts, tuple) or len(value.nexts) == 0:
        raise InvalidTable(-2)
    many = len(value.nexts)
    for at, after in enumerate(value.nexts):
        if not are_states(after, len(value.letters), many):
            raise InvalidTable(at)
    if not are_ascending_states(value.ends, many):
        raise InvalidTable(many)


def is_row_table(value):
    try:
        need_row_table(value)
    except InvalidTable:
        return False
    return True


def behind(table, state, row):
    for letter in row:
        if letter not in table.letters:
            return None
        state = table.nexts[state][table.letters.index(letter)]
    return state


def accepts(table, row):
    return _is_end(table, behind(table, 0, row))


def _is_end(table, state):
    return state is not None and state in table.ends


def least_rows(table):
    found = [state for state, _ in rows_to(table)]
    numbers = {state: at for at, state in enumerate(found)}
    nexts = [[numbers[other] for other in table.nexts[state]] for state in found]
    is_end = {state: True for state in table.ends}
    kinds = [state in is_end for state in found]
    # Classes are numbered as states of them first come, and states come in
    # the order of the least rows that lead to them.
    classes = parted(kinds, nexts)
    firsts = firsts_of(classes)
    merged = tuple([tuple([classes[other] for other in nexts[first]]) for first in firsts])
    ends = tuple([number for number, first in enumerate(firsts) if kinds[first]])
    return RowTable(tuple(table.letters), merged, ends)


def rows_to(table):
    """List the states that rows lead to from 0, each with its shortest, least row, in the order of these."""
    queue = [(0, ())]
    met = {0: True}
    at = 0
    while at < len(queue):
        state, row = queue[at]
        at += 1
        for letter, other in zip(table.letters, table.nexts[state]):
            if other not in met:
                met[other] = True
                queue.append((other, row + (letter,)))
    return queue


def rows_table(formula, letters):
    masks = SpotMasks(formula)
    queue = [1 << masks.start]
    numbers = {queue[0]: 0}
    nexts = []
    while len(nexts) < len(queue):
        following = masks.behind(queue[len(nexts)])
        after = []
        for letter in letters:
            mask = following & masks.by_letter.get(letter, 0)
            if mask not in numbers:
                numbers[mask] = len(queue)
                queue.append(mask)
            after.append(numbers[mask])
        nexts.append(tuple(after))
    ends = tuple([at for at, mask in enumerate(queue) if mask & masks.ends])
    return least_rows(RowTable(tuple(letters), tuple(nexts), ends))


def parting_row(one, other):
    return first_row(one, other, (True, True), (0, 0))


def within(one, other):
    return first_row(one, other, (True, False), (0, 0))


def first_row(one, other, sides, begin):
    """Tell the shortest, least row from two states that one table alone accepts, for the tables asked for in sides."""
    queue = [(begin, ())]
    met = {begin: True}
    at = 0
    while at < len(queue):
        (state, second), row = queue[at]
        at += 1
        taken = (state in one.ends, second in other.ends)
        if taken[0] != taken[1] and (sides[0] if taken[0] else sides[1]):
            return row
        for number, letter in enumerate(one.letters):
            pair = (one.nexts[state][number], other.nexts[second][number])
            if pair not in met:
                met[pair] = True
                queue.append((pair, row + (letter,)))
    return None


def least_paper(table):
    to_states = {state: row for state, row in rows_to(table)}
    many = len(table.nexts)
    apart = _rows_apart(table)
    if len(to_states) < many or len(apart) < many * (many - 1) // 2:
        return None
    triples = [(state, other, apart[state, other]) for state, other in _pairs(many)]
    return (tuple([to_states[state] for state in range(many)]), tuple(triples))


def _pairs(many):
    return [(state, other) for state in range(many) for other in range(state + 1, many)]


def _rows_apart(table):
    """Give pairs of states, the lesser one first, the shortest, least row from just one of them to an end."""
    pairs = _pairs(len(table.nexts))
    rows = {pair: () for pair in pairs if (pair[0] in table.ends) != (pair[1] in table.ends)}
    left = [pair for pair in pairs if pair not in rows]
    many = -1
    while many < len(rows):
        many = len(rows)
        # All rows of one round are of one length: the first letter with one is the least.
        found = [(pair, _row_on(table, pair, rows)) for pair in left]
        left = [pair for pair, row in found if row is None]
        for pair, row in found:
            if row is not None:
                rows[pair] = row
    return rows


def _row_on(table, pair, rows):
    for letter, state, other in zip(table.letters, table.nexts[pair[0]], table.nexts[pair[1]]):
        after = (min(state, other), max(state, other))
        if after in rows:
            return (letter,) + rows[after]
    return None


def check_least(table, value):
    many = len(table.nexts)
    if not isinstance(value, tuple) or len(value) != 2:
        return False
    rows, triples = value
    if not isinstance(rows, tuple) or len(rows) != many or not isinstance(triples, tuple):
        return False
    for state, row in enumerate(rows):
        if not isinstance(row, tuple) or behind(table, 0, row) != state:
            return False
    if not all([_parts(table, triple) for triple in triples]):
        return False
    found = {(min(one, other), max(one, other)): True for one, other, _ in triples}
    return len(found) == many * (many - 1) // 2


def _parts(table, value):
    """Tell whether any value is two states and a row from just one of them to an end."""
    if not isinstance(value, tuple) or len(value) != 3 or not isinstance(value[2], tuple):
        return False
    if not is_state(value[0], len(table.nexts)) or not is_state(value[1], len(table.nexts)):
        return False
    one = behind(table, value[0], value[2])
    other = behind(table, value[1], value[2])
    return one is not None and (one in table.ends) != (other in table.ends)
