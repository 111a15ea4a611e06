"""The shapes of formulas, and walks through them without recursion."""

from turnsfit.stacks import taken
from turnsfit.words import is_name

SINGLE = ("text", "empty")
MANY = ("row", "either")
ONE_PART = ("star", "some", "maybe")


def has_shape(value):
    """Tell whether any value has a formula's shape, whatever its parts are."""
    if not isinstance(value, tuple) or len(value) == 0 or not isinstance(value[0], str):
        return False
    word = value[0]
    if word in SINGLE:
        return len(value) == 1
    if len(value) != 2:
        return False
    if word == "one":
        return is_name(value[1])
    if word in MANY:
        return isinstance(value[1], tuple) and len(value[1]) > 0
    return word in ONE_PART


def inner_parts(formula):
    """Tell the parts right within a value that has a formula's shape."""
    if formula[0] in MANY:
        return formula[1]
    if formula[0] in ONE_PART:
        return (formula[1],)
    return ()


def all_formulas(formula):
    """List a formula and all in it, in the order in which they begin."""
    waiting = [formula]
    found = []
    while waiting:
        part = waiting.pop()
        found.append(part)
        waiting.extend(inner_parts(part)[::-1])
    return found


def worked_out(formula, of_part):
    """Work a formula out from below: of_part(formula, list of what its parts gave)."""
    made = []
    for part in all_formulas(formula)[::-1]:
        made.append(of_part(part, taken(made, len(inner_parts(part)))))
    return made[0]


def own_letter(formula):
    """Tell the letter that a formula is, or None."""
    if formula[0] == "one":
        return formula[1]
    return "" if formula[0] == "text" else None


def with_parts(formula, parts):
    """Make a formula like another one, with other parts in it."""
    if formula[0] in MANY:
        return (formula[0], tuple(parts))
    if formula[0] in ONE_PART:
        return (formula[0], parts[0])
    return formula
