"""Turnings one behind another, and the first one that does not lead as told."""

from turnsfit.judged import Breaks, verdict
from turnsfit.turnings import made_document


def made_along(turnings, node):
    for turning in turnings:
        node = made_document(turning, node)
        if node is None:
            return None
    return node


def first_break(turnings, schemas):
    for number, turning in enumerate(turnings):
        found = verdict(turning, schemas[number], schemas[number + 1])
        if isinstance(found, Breaks):
            return (number, found)
    return None
