"""Formulas, and the rows of letters that they spell."""

from turnsfit.errors import InvalidFormula
from turnsfit.formulaparts import all_formulas, has_shape, inner_parts, own_letter, with_parts, worked_out
from turnsfit.spotmasks import SpotMasks


def need_formula(value):
    waiting = [value]
    at = 0
    while waiting:
        part = waiting.pop()
        if not has_shape(part):
            raise InvalidFormula(at)
        waiting.extend(inner_parts(part)[::-1])
        at += 1


def is_formula(value):
    try:
        need_formula(value)
    except InvalidFormula:
        return False
    return True


def parts_of(formula):
    return len(all_formulas(formula))


def letters_of(formula):
    found = [own_letter(part) for part in all_formulas(formula)]
    return tuple(sorted({letter for letter in found if letter is not None}))


def spells(formula, row):
    masks = SpotMasks(formula)
    return (masks.read(1 << masks.start, row) & masks.ends) != 0


def spells_none(formula):
    return spells_within(formula, {})


def spells_within(formula, letters):
    """Tell whether a formula spells some row of the letters in a dict."""
    return worked_out(formula, lambda part, parts: _some_above(part, parts, letters))


def _some_above(formula, parts, letters):
    word = formula[0]
    if word == "row":
        return all(parts)
    if word == "either":
        return any(parts)
    if word == "some":
        return parts[0]
    letter = own_letter(formula)
    return letter is None or letter in letters


def filled(formula, pairs):
    by_letter = {letter: other for letter, other in pairs}
    return worked_out(formula, lambda part, parts: _filled_above(part, parts, by_letter))


def _filled_above(formula, parts, by_letter):
    letter = own_letter(formula)
    if letter is None:
        return with_parts(formula, parts)
    return by_letter.get(letter, formula)
