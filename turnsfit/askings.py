"""Asks put together."""

from turnsfit.asks import Ask
from turnsfit.joined import paired, united
from turnsfit.schemas import kinds_of


def either_ask(one, other):
    schema, names = united(one.schema, other.schema)
    marked = [names[0][kind] for kind in one.marked] + [names[1][kind] for kind in other.marked]
    return Ask(schema, tuple(sorted(marked)))


def both_ask(one, other):
    schema, pairs = paired(one.schema, other.schema)
    marked = [kind for kind in kinds_of(schema) if pairs[kind][0] in one.marked and pairs[kind][1] in other.marked]
    return Ask(schema, tuple(marked))
