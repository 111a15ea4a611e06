"""Turnings: documents made of others, node by node, by rules."""

from turnsfit.errors import InvalidTurning
from turnsfit.making import ForestMaker, Making, OriginMaker, SizeMaker, forest_parts, goes_within
from turnsfit.places import places_of
from turnsfit.words import is_letter, is_name, is_text


class Turning:
    def __init__(self, rules, mode):
        self.rules = rules
        self.mode = mode

    def __eq__(self, other):
        return isinstance(other, Turning) and self.rules == other.rules and self.mode == other.mode


def need_turning(value):
    if not isinstance(value, Turning) or not is_name(value.mode) or not isinstance(value.rules, tuple):
        raise InvalidTurning(-1)
    for at, rule in enumerate(value.rules):
        if not is_rule(rule) or (at > 0 and rule[:2] <= value.rules[at - 1][:2]):
            raise InvalidTurning(at)


def is_rule(value):
    """Tell whether any value is a rule, by itself."""
    if not isinstance(value, tuple) or len(value) != 3 or not isinstance(value[2], tuple):
        return False
    if not is_name(value[0]) or not is_letter(value[1]):
        return False
    waiting = list(value[2])
    while waiting:
        part = waiting.pop()
        if not _is_part(part, value[1]):
            return False
        if part[0] == "node":
            waiting.extend(part[2])
    return True


def _is_part(value, letter):
    """Tell whether any value is a part of a rule for a letter, whatever stands in it."""
    if not isinstance(value, tuple) or len(value) == 0:
        return False
    if value[0] == "node":
        return len(value) == 3 and is_name(value[1]) and isinstance(value[2], tuple)
    if value[0] == "say":
        return len(value) == 2 and is_text(value[1])
    if value[0] == "go":
        return len(value) == 2 and is_name(value[1]) and letter != ""
    return value == ("keep",) and letter == ""


def is_turning(value):
    try:
        need_turning(value)
    except InvalidTurning:
        return False
    return True


def goes_of(parts):
    return tuple(goes_within(parts))


def modes_of(turning):
    found = {turning.mode: True}
    for mode, _, parts in turning.rules:
        found[mode] = True
        for other in goes_within(parts):
            found[other] = True
    return tuple(sorted(found))


def rule_for(turning, mode, letter):
    for rule in turning.rules:
        if rule[0] == mode and rule[1] == letter:
            return rule[2]
    return None


def made_by(turning, parts, things):
    return Making(turning, forest_parts(things), ForestMaker()).of_rule_around(parts)


def turned_forest(turning, mode, forest):
    return Making(turning, forest_parts(forest), ForestMaker()).of_all(mode)


def turned(turning, node):
    return turned_forest(turning, turning.mode, (node,))


def made_document(turning, node):
    made = turned(turning, node)
    if len(made) == 1 and not isinstance(made[0], str):
        return made[0]
    return None


def made_size(turning, node):
    return Making(turning, forest_parts((node,)), SizeMaker()).of_all(turning.mode)


def origins(turning, node):
    places = places_of(node)
    numbers = Making(turning, forest_parts((node,)), OriginMaker()).of_all(turning.mode)
    return tuple([places[number] for number in numbers])
