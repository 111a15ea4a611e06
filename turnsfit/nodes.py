"""Documents: what a node is, how great it is, and the order of nodes."""

from turnsfit.errors import InvalidNode
from turnsfit.stacks import taken
from turnsfit.words import is_name, is_text

END_KEY = "0"
TEXT_KEY = "1"
NODE_KEY = "2"


def need_node(value):
    if not _is_pair(value):
        raise InvalidNode(0)
    _need_things((value,))


def need_thing(value):
    _need_things((value,))


def need_forest(value):
    if not isinstance(value, tuple):
        raise InvalidNode(-1)
    _need_things(value)


def _is_pair(value):
    return isinstance(value, tuple) and len(value) == 2 and is_name(value[0]) and isinstance(value[1], tuple)


def _need_things(things):
    # A stack instead of recursion: whatever is passed may be nested deep.
    waiting = list(things[::-1])
    at = 0
    while waiting:
        thing = waiting.pop()
        if _is_pair(thing):
            waiting.extend(thing[1][::-1])
        elif not is_text(thing):
            raise InvalidNode(at)
        at += 1


def is_node(value):
    try:
        need_node(value)
    except InvalidNode:
        return False
    return True


def is_forest(value):
    try:
        need_forest(value)
    except InvalidNode:
        return False
    return True


def all_things(forest):
    """List all that stands in a forest, in the order of reading."""
    waiting = list(forest[::-1])
    things = []
    while waiting:
        thing = waiting.pop()
        things.append(thing)
        if not isinstance(thing, str):
            waiting.extend(thing[1][::-1])
    return things


def built(thing, of_text, of_node):
    """Work a thing out from below: of_text(text), of_node(name, list of what its things gave)."""
    made = []
    for part in all_things((thing,))[::-1]:
        if isinstance(part, str):
            made.append(of_text(part))
        else:
            made.append(of_node(part[0], taken(made, len(part[1]))))
    return made[0]


def forest_size(forest):
    return len(all_things(forest))


def size_of(thing):
    return forest_size((thing,))


def depth_of(thing):
    return built(thing, lambda text: 0, _depth_above)


def _depth_above(_, depths):
    return 1 + max(depths, default=0)


def names_of(thing):
    return tuple(sorted({part[0] for part in all_things((thing,)) if not isinstance(part, str)}))


def shape_of(thing):
    return built(thing, lambda text: "", _node_made)


def _node_made(name, things):
    return (name, tuple(things))


def order_key(thing):
    """List strings that compare as things do in their order."""
    # None stands behind the things of a node: its key is below those of all
    # things, so a node whose things run out first comes first.
    waiting = [thing]
    key = []
    while waiting:
        part = waiting.pop()
        if part is None:
            key.append(END_KEY)
        elif isinstance(part, str):
            key.append(TEXT_KEY + part)
        else:
            key.append(NODE_KEY + part[0])
            waiting.append(None)
            waiting.extend(part[1][::-1])
    return key


def compared(one, other):
    first = order_key(one)
    second = order_key(other)
    if first == second:
        return 0
    return -1 if first < second else 1


def least_of(things):
    return min(things, key=_least_key)


def _least_key(thing):
    return (size_of(thing), order_key(thing))
