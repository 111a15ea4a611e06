"""Places of the things in a document."""

from turnsfit.errors import InvalidPlace, InvalidSize
from turnsfit.nodes import need_node, need_thing
from turnsfit.words import is_number


def need_place(node, value):
    if not isinstance(value, tuple):
        raise InvalidPlace(-1)
    thing = node
    for at, number in enumerate(value):
        many = 0 if isinstance(thing, str) else len(thing[1])
        if not is_number(number) or number >= many:
            raise InvalidPlace(at)
        thing = thing[1][number]


def at_place(node, place):
    need_place(node, place)
    return _things_down(node, place)[-1]


def _things_down(node, place):
    things = [node]
    for number in place:
        things.append(things[-1][1][number])
    return things


def places_of(node):
    return tuple([place for place, _ in _placed(node)])


def node_places(node):
    return tuple([place for place, thing in _placed(node) if not isinstance(thing, str)])


def _placed(node):
    waiting = [((), node)]
    pairs = []
    while waiting:
        place, thing = waiting.pop()
        pairs.append((place, thing))
        if not isinstance(thing, str):
            below = [(place + (number,), part) for number, part in enumerate(thing[1])]
            waiting.extend(below[::-1])
    return pairs


def place_number(node, place):
    need_place(node, place)
    return places_of(node).index(place)


def place_at(node, number):
    places = places_of(node)
    if not is_number(number) or number >= len(places):
        raise InvalidSize("number")
    return places[number]


def replaced(node, place, thing):
    need_place(node, place)
    if place == ():
        need_node(thing)
    else:
        need_thing(thing)
    return with_thing(node, place, thing)


def with_thing(node, place, thing):
    """Put another thing at a place that is there, checking nothing."""
    around = _things_down(node, place)
    made = thing
    for depth in range(len(place) - 1, -1, -1):
        name, things = around[depth]
        number = place[depth]
        made = (name, things[:number] + (made,) + things[number + 1:])
    return made
