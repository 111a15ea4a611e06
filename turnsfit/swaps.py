"""Moves of rows: to which states they lead from all states, and rows that can be exchanged."""

from turnsfit.rowtables import first_row, rows_to


def moves(table, row):
    after = {letter: number for number, letter in enumerate(table.letters)}
    found = tuple(range(len(table.nexts)))
    for letter in row:
        found = _moves_on(table, found, after[letter])
    return found


def _moves_on(table, found, number):
    """Tell the moves of a row with one more letter, from its own."""
    return tuple([table.nexts[state][number] for state in found])


def all_moves(table):
    queue = [(moves(table, ()), ())]
    met = {queue[0][0]: True}
    at = 0
    while at < len(queue):
        found, row = queue[at]
        at += 1
        for number, letter in enumerate(table.letters):
            after = _moves_on(table, found, number)
            if after not in met:
                met[after] = True
                queue.append((after, row + (letter,)))
    return tuple(queue)


def surroundings(table, one, other):
    first = moves(table, one)
    second = moves(table, other)
    for state, ahead in rows_to(table):
        after = first_row(table, table, (True, True), (first[state], second[state]))
        if after is not None:
            return (ahead, after)
    return None


def returns(table, row):
    once = moves(table, row)
    found = moves(table, ())
    met = {}
    while found not in met:
        met[found] = len(met)
        found = tuple([once[state] for state in found])
    return (met[found], len(met) - met[found])
