"""Calls run in a new house, and papers that show that all in a house is right."""

from turnsfit.fitting import check_typing, typing_of
from turnsfit.house import House
from turnsfit.judged import Leads, check_verdict, verdict


def run(calls):
    house = House()
    return tuple([(call, house.do(call), house.why_now()) for call in calls])


def parts_of_link(house, name):
    return tuple([house.thing_now(other)[1] for other in house.thing_now(name)[1]])


def house_paper(house):
    papers = []
    for name in house.names_now("document"):
        schema, node = _document(house, name)
        papers.append((name, typing_of(schema, node)))
    for name in house.names_now("link"):
        turning, schema, other = parts_of_link(house, name)
        papers.append((name, verdict(turning, schema, other)))
    return tuple(papers)


def _document(house, name):
    """Tell the schema and the node of a document."""
    schema, node = house.thing_now(name)[1]
    return (house.thing_now(schema)[1], node)


def check_house_paper(house, value):
    documents = house.names_now("document")
    links = house.names_now("link")
    if not isinstance(value, tuple) or len(value) != len(documents) + len(links):
        return False
    if not all([isinstance(pair, tuple) and len(pair) == 2 for pair in value]):
        return False
    if not all([isinstance(pair[0], str) and pair[0] == name for pair, name in zip(value, documents + links)]):
        return False
    papers = [pair[1] for pair in value]
    for name, paper in zip(documents, papers):
        schema, node = _document(house, name)
        if not check_typing(schema, node, paper):
            return False
    for name, paper in zip(links, papers[len(documents):]):
        turning, schema, other = parts_of_link(house, name)
        if not isinstance(paper, Leads) or not check_verdict(turning, schema, other, paper):
            return False
    return True
