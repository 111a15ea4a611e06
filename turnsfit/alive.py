"""Types that some node can be given, and schemas cut down to them."""

from turnsfit.formulaparts import own_letter, with_parts, worked_out
from turnsfit.formulas import letters_of, spells_within
from turnsfit.schemas import Schema


def lessened(formula, letters):
    gone = {letter: True for letter in letters}
    return worked_out(formula, lambda part, parts: _less_above(part, parts, gone))


def _less_above(formula, parts, gone):
    word = formula[0]
    left = [part for part in parts if part is not None]
    if own_letter(formula) in gone or (word in ("row", "some") and len(left) < len(parts)):
        return None
    if len(left) == len(parts):
        return with_parts(formula, parts)
    if word == "either":
        return with_parts(formula, left) if left else None
    return ("empty",)


def order_paper(schema):
    known = {"": True}
    order = []
    left = list(schema.types)
    many = -1
    while many < len(order):
        many = len(order)
        found = [kind for kind, _, formula in left if spells_within(formula, known)]
        for kind in found:
            known[kind] = True
        order.extend(found)
        left = [triple for triple in left if triple[0] not in known]
    return tuple(order)


def alive_types(schema):
    return tuple(sorted(order_paper(schema)))


def is_empty(schema):
    alive = alive_types(schema)
    return not any([kind in alive for kind in schema.tops])


def check_order(schema, value):
    formulas = {kind: formula for kind, _, formula in schema.types}
    if not _are_kinds(formulas, value):
        return False
    known = {"": True}
    for kind in value:
        if kind in known or not spells_within(formulas[kind], known):
            return False
        known[kind] = True
    return True


def check_dead(schema, value):
    formulas = {kind: formula for kind, _, formula in schema.types}
    if not _are_kinds(formulas, value):
        return False
    others = {kind: True for kind in formulas if kind not in value}
    others[""] = True
    return not any([spells_within(formulas[kind], others) for kind in value])


def _are_kinds(formulas, value):
    return isinstance(value, tuple) and all([isinstance(kind, str) and kind in formulas for kind in value])


def trimmed(schema):
    alive = {kind: True for kind in order_paper(schema)}
    tops = tuple([kind for kind in schema.tops if kind in alive])
    dead = [kind for kind, _, _ in schema.types if kind not in alive]
    formulas = {kind: lessened(formula, dead) for kind, _, formula in schema.types if kind in alive}
    met = {kind: True for kind in tops}
    queue = list(tops)
    at = 0
    while at < len(queue):
        letters = letters_of(formulas[queue[at]])
        for kind in letters:
            if kind != "" and kind not in met:
                met[kind] = True
                queue.append(kind)
        at += 1
    triples = [(kind, name, formulas[kind]) for kind, name, _ in schema.types if kind in met]
    return Schema(tuple(triples), tops)
