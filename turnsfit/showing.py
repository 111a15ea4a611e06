"""Sheets made for facts: each one shows, by itself or with what follows, the fact that it is made for."""

from turnsfit.alive import alive_types
from turnsfit.composed import keeping
from turnsfit.doubled import single_paper, two_typings
from turnsfit.exchanges import plain_or_exchange
from turnsfit.fitting import typing_of
from turnsfit.joined import is_within
from turnsfit.judged import Leads, verdict
from turnsfit.leastnodes import least_document
from turnsfit.mended import least_mend, low_paper
from turnsfit.refusals import refusal
from turnsfit.schemas import kinds_of, node_names


def sheet_showing(word, question):
    """Make the sheet that shows the answer to a question, whatever it is: the word of the fact, and its question."""
    if word == "fits":
        return _fit_sheet(question[0], question[1])
    if word == "cost":
        if least_mend(question[0], question[1]) is None:
            return _empty_sheet(question[0])
        return ("costs", question, (least_mend(question[0], question[1]), low_paper(question[0], question[1])))
    if word == "empty":
        return _empty_sheet(question)
    if word == "single":
        return _single_sheet(question)
    if word == "plain":
        return _plain_sheet(question)
    if word == "within":
        return _within_sheet(question[0], question[1])
    found = verdict(question[0], question[1], question[2])
    if isinstance(found, Leads):
        return ("leads", question, found.marks)
    return ("breaks", question, (found.node, found.place))


def _fit_sheet(schema, node):
    giving = typing_of(schema, node)
    if giving is None:
        return ("unfit", (schema, node), refusal(schema, node))
    return ("fits", (schema, node), giving)


def _empty_sheet(schema):
    node = least_document(schema)
    if node is not None:
        return ("some", schema, (node, typing_of(schema, node)))
    alive = alive_types(schema)
    return ("none", schema, tuple([kind for kind in kinds_of(schema) if kind not in alive]))


def _single_sheet(schema):
    found = two_typings(schema)
    return ("single", schema, single_paper(schema)) if found is None else ("twice", schema, found)


def _plain_sheet(schema):
    found = plain_or_exchange(schema)
    if found[0] == "exchange":
        return ("exchange", schema, found[1:])
    hull = found[1]
    return ("plain", schema, (hull, _marks_within(schema, hull), _marks_within(hull, schema)))


def _marks_within(one, other):
    """Tell the marks that show that a schema is within another one."""
    return verdict(keeping(node_names(one)), one, other).marks


def _within_sheet(one, other):
    node = is_within(one, other)
    if node is None:
        return ("within", (one, other), _marks_within(one, other))
    return ("beyond", (one, other), (node, typing_of(one, node), refusal(other, node)))
