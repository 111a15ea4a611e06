"""Row tables put together, the formulas of what they accept, and accepted rows by their numbers."""

from turnsfit.rowtables import RowTable, accepts, behind, least_rows
from turnsfit.rowwalks import RowWalk, formula_between


def both_rows(one, other):
    return _combined(one, other, lambda first, second: first and second)


def either_rows(one, other):
    return _combined(one, other, lambda first, second: first or second)


def but_rows(one, other):
    return _combined(one, other, lambda first, second: first and not second)


def _combined(one, other, is_taken):
    """Make the least table of rows that are taken, by whether each of two tables accepts them."""
    queue = [(0, 0)]
    numbers = {(0, 0): 0}
    nexts = []
    while len(nexts) < len(queue):
        first, second = queue[len(nexts)]
        after = list(zip(one.nexts[first], other.nexts[second]))
        for pair in after:
            if pair not in numbers:
                numbers[pair] = len(queue)
                queue.append(pair)
        nexts.append(tuple([numbers[pair] for pair in after]))
    ends = [at for at, pair in enumerate(queue) if is_taken(pair[0] in one.ends, pair[1] in other.ends)]
    return least_rows(RowTable(tuple(one.letters), tuple(nexts), tuple(ends)))


def other_rows(table):
    ends = [state for state in range(len(table.nexts)) if state not in table.ends]
    return least_rows(RowTable(table.letters, table.nexts, tuple(ends)))


def rest_rows(table, row):
    # Rows begin at state 0, so the state behind the row changes places with it.
    first = behind(table, 0, row)
    order = list(range(len(table.nexts)))
    order[first] = 0
    order[0] = first
    nexts = [tuple([order[other] for other in table.nexts[state]]) for state in order]
    ends = tuple(sorted([order[state] for state in table.ends]))
    return least_rows(RowTable(table.letters, tuple(nexts), ends))


def formula_of(table):
    least = least_rows(table)
    ends = [state in least.ends for state in range(len(least.nexts))]
    return formula_between(RowWalk([list(zip(least.letters, after)) for after in least.nexts], ends))


def _counts_to(table, length):
    """List, for each length up to one, how many rows of this length lead from each state to an end."""
    counts = [[1 if state in table.ends else 0 for state in range(len(table.nexts))]]
    while len(counts) <= length:
        counts.append(_counts_longer(table, counts[-1]))
    return counts


def _counts_longer(table, counts):
    """List for rows longer by one letter what is told for rows of some length."""
    return [sum([counts[other] for other in after]) for after in table.nexts]


def many_rows(table, length):
    return _counts_to(table, length)[length][0]


def longest(table):
    # A row as long as there are states meets some state twice. So if there
    # are longer ones, some of them are of less than twice as many letters.
    many = len(table.nexts)
    found = [length for length, counts in enumerate(_counts_to(table, 2 * many)) if counts[0] > 0]
    most = max(found, default=-1)
    return most if most < many else None


def row_at(table, number):
    most = longest(table)
    counts = _counts_to(table, 0)
    while counts[-1][0] <= number:
        number -= counts[-1][0]
        if most is not None and len(counts) > most:
            return None
        counts.append(_counts_longer(table, counts[-1]))
    row = []
    state = 0
    for ahead in counts[:-1][::-1]:
        letter, state, number = _letter_at(table, state, ahead, number)
        row.append(letter)
    return tuple(row)


def _letter_at(table, state, counts, number):
    """Tell the letter and the state behind it that a row with a number begins with, and its number among these."""
    for letter, other in zip(table.letters, table.nexts[state]):
        if number < counts[other]:
            break
        number -= counts[other]
    return (letter, other, number)


def number_of(table, row):
    if not accepts(table, row):
        return None
    counts = _counts_to(table, len(row))
    number = sum([ahead[0] for ahead in counts[:len(row)]])
    state = 0
    for letter, ahead in zip(row, counts[:len(row)][::-1]):
        at = table.letters.index(letter)
        number += sum([ahead[other] for other in table.nexts[state][:at]])
        state = table.nexts[state][at]
    return number


def many_choices(table, lots):
    return _choices_on(table, lots)[0][0]


def _choices_on(table, lots):
    """List, ahead of lots and behind each, how many choices of the rest lead from each state to an end."""
    counts = _counts_to(table, 0)
    for lot in lots[::-1]:
        numbers = [at for at, letter in enumerate(table.letters) if letter in lot]
        counts.append([sum([counts[-1][after[at]] for at in numbers]) for after in table.nexts])
    return counts[::-1]


def choice(table, lots):
    counts = _choices_on(table, lots)
    if counts[0][0] == 0:
        return None
    row = []
    state = 0
    for lot, ahead in zip(lots, counts[1:]):
        for letter, other in zip(table.letters, table.nexts[state]):
            if letter in lot and ahead[other] > 0:
                break
        row.append(letter)
        state = other
    return tuple(row)
