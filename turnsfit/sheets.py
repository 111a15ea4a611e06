"""Sheets: papers that show what is so, whoever wrote them."""

from turnsfit.alive import check_dead, check_order
from turnsfit.asks import check_answer, need_ask
from turnsfit.composed import keeping
from turnsfit.costs import check_mend, mend_cost
from turnsfit.doubled import check_single
from turnsfit.errors import InvalidAsk, InvalidSchema
from turnsfit.exchanges import check_exchange
from turnsfit.fitting import check_giving, check_typing
from turnsfit.growth import check_growing
from turnsfit.judged import Breaks, Leads, check_verdict
from turnsfit.leastnodes import check_sizes
from turnsfit.mended import check_low
from turnsfit.nodes import is_node, size_of
from turnsfit.refusals import check_refusal
from turnsfit.schemas import is_schema, kinds_of, node_names
from turnsfit.statepapers import check_states
from turnsfit.tables import is_table
from turnsfit.turnings import is_turning
from turnsfit.ways import is_plain_schema

# What the questions are of; those of one word are this thing itself, all others tuples.
QUESTIONS = {
    "fits": ("schema", "node"), "unfit": ("schema", "node"), "costs": ("schema", "node"),
    "answer": ("ask", "node", "any"),
    "single": ("schema",), "twice": ("schema",), "some": ("schema",), "alive": ("schema",), "dead": ("schema",),
    "none": ("schema",), "plain": ("schema",), "exchange": ("schema",), "smallest": ("schema", "any"),
    "least": ("table",), "within": ("schema", "schema"), "beyond": ("schema", "schema"),
    "leads": ("turning", "schema", "schema"), "breaks": ("turning", "schema", "schema"), "growing": ("turning",)}

# Of how many things the papers are that are tuples of several things; all others are one thing.
PAPERS = {"costs": 2, "twice": 3, "some": 2, "plain": 3, "smallest": 3, "beyond": 3, "breaks": 2}


def sheet_holds(value):
    if not isinstance(value, tuple) or len(value) != 3:
        return False
    if not isinstance(value[0], str) or value[0] not in QUESTIONS:
        return False
    word, question, paper = value
    things = _things(question, len(QUESTIONS[word]))
    papers = _things(paper, PAPERS.get(word, 1))
    if things is None or papers is None:
        return False
    if not all([_is_sort(sort, thing) for sort, thing in zip(QUESTIONS[word], things)]):
        return False
    if word in ("fits", "unfit", "costs", "smallest", "answer"):
        return _holds_of_node(word, things, papers)
    if word in ("within", "beyond"):
        return _holds_of_two(word, things[0], things[1], papers)
    if word in ("leads", "breaks"):
        found = Leads(papers[0]) if word == "leads" else Breaks(papers[0], papers[1])
        return check_verdict(things[0], things[1], things[2], found)
    if word == "least":
        return check_states(things[0], papers[0])
    if word == "growing":
        return check_growing(things[0], papers[0])
    return _holds_of_schema(word, things[0], papers)


def _things(value, many):
    """Tell the things of any value: itself, or those of a tuple of so many things; None if it is none."""
    if many == 1:
        return (value,)
    return value if isinstance(value, tuple) and len(value) == many else None


def _is_sort(sort, value):
    if sort == "schema":
        return is_schema(value)
    if sort == "node":
        return is_node(value)
    if sort == "turning":
        return is_turning(value)
    if sort == "table":
        return is_table(value)
    return sort == "any" or _is_ask(value)


def _is_ask(value):
    try:
        need_ask(value)
    except (InvalidAsk, InvalidSchema):
        return False
    return True


def _holds_of_node(word, things, papers):
    if word == "fits":
        return check_typing(things[0], things[1], papers[0])
    if word == "unfit":
        return check_refusal(things[0], things[1], papers[0])
    if word == "answer":
        return check_answer(things[0], things[1], things[2], papers[0])
    schema = things[0]
    if word == "smallest":
        return _is_smallest(schema, things[1], papers)
    mend, low = papers
    return check_mend(schema, things[1], mend) and check_low(schema, things[1], low, mend_cost(schema, things[1], mend))


def _is_smallest(schema, kind, papers):
    """Tell whether a node, a giving and sizes, any values, show the size of the least node of any value as a type."""
    node, giving, sizes = papers
    if not isinstance(kind, str) or kind not in kinds_of(schema) or not is_node(node):
        return False
    if not check_giving(schema, node, giving) or giving[0] != kind or not check_sizes(schema, sizes):
        return False
    return sizes[kinds_of(schema).index(kind)] == size_of(node)


def _holds_of_two(word, one, other, papers):
    if word == "within":
        return _is_within_shown(one, other, papers[0])
    node, giving, refused = papers
    return is_node(node) and check_typing(one, node, giving) and check_refusal(other, node, refused)


def _is_within_shown(one, other, marks):
    return check_verdict(keeping(node_names(one)), one, other, Leads(marks))


def _holds_of_schema(word, schema, papers):
    if word == "single":
        return check_single(schema, papers[0])
    if word == "alive":
        return check_order(schema, papers[0])
    if word == "dead":
        return check_dead(schema, papers[0])
    if word == "none":
        return check_dead(schema, papers[0]) and all([kind in papers[0] for kind in schema.tops])
    if word == "exchange":
        return check_exchange(schema, papers[0])
    if word == "plain":
        hull, there, back = papers
        if not is_schema(hull) or not is_plain_schema(hull):
            return False
        return _is_within_shown(schema, hull, there) and _is_within_shown(hull, schema, back)
    node = papers[0]
    if not is_node(node) or not all([check_typing(schema, node, giving) for giving in papers[1:]]):
        return False
    return word == "some" or papers[1] != papers[2]
