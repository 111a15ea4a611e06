"""Asks: the nodes of documents that some typing gives a marked type."""

from turnsfit.errors import InvalidAsk, InvalidPlace
from turnsfit.fitting import check_typing
from turnsfit.givings import Givings
from turnsfit.places import at_place, place_number
from turnsfit.schemas import kinds_of, need_schema
from turnsfit.words import are_ascending_names


class Ask:
    def __init__(self, schema, marked):
        self.schema = schema
        self.marked = marked

    def __eq__(self, other):
        return isinstance(other, Ask) and self.schema == other.schema and self.marked == other.marked


def need_ask(value):
    if not isinstance(value, Ask):
        raise InvalidAsk(-1)
    need_schema(value.schema)
    kinds = kinds_of(value.schema)
    if not are_ascending_names(value.marked) or not all([kind in kinds for kind in value.marked]):
        raise InvalidAsk(0)


def answers_by(ask, value):
    waiting = [((), value)]
    found = []
    while waiting:
        place, giving = waiting.pop()
        if giving == "":
            continue
        if giving[0] in ask.marked:
            found.append(place)
        waiting.extend([(place + (number,), part) for number, part in enumerate(giving[1])])
    return tuple(sorted(found))


def check_answer(ask, node, place, value):
    if not check_typing(ask.schema, node, value):
        return False
    try:
        thing = at_place(node, place)
    except InvalidPlace:
        return False
    return not isinstance(thing, str) and _giving_at(value, place)[0] in ask.marked


def _giving_at(giving, place):
    for number in place:
        giving = giving[1][number]
    return giving


def answer_paper(ask, node, place):
    found = Givings(ask.schema, node)
    found.narrow(place_number(node, place), ask.marked)
    givings = found.first(1, [kind for kind in found.lots[0] if kind in ask.schema.tops])
    return givings[0] if givings else None
