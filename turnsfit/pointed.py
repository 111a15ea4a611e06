"""Documents with a node put in at an answer, and asks compared by them."""

from turnsfit.alive import is_empty
from turnsfit.errors import Refused
from turnsfit.joined import is_within
from turnsfit.places import at_place, node_places, with_thing
from turnsfit.rowwalks import RowWalk, walk_of
from turnsfit.schemas import node_names
from turnsfit.walkschemas import schema_of_walks
from turnsfit.words import numbered_name


def pointed_node(node, place, name):
    around, things = at_place(node, place)
    return with_thing(node, place, (around, ((name, ()),) + things))


def unpointed(node, name):
    for place in node_places(node):
        around, things = at_place(node, place)
        if things[:1] == ((name, ()),):
            break
    return (with_thing(node, place, (around, things[1:])), place)


def pointed(ask, name):
    if name in node_names(ask.schema):
        raise Refused("name")
    return _with_answer(ask, name)


def answered(ask):
    return _with_answer(ask, None)


def _with_answer(ask, pointer):
    """Make a schema of documents with an answer, at which a node with a name is put in, if there is one told.

    Each type has a second one: of nodes that are the answer, or have it in
    them. In these just one thing more is of a second type, if they are not
    the answer themselves.
    """
    kinds = [kind for kind, _, _ in ask.schema.types]
    plain = {kind: numbered_name(2 * at) for at, kind in enumerate(kinds)}
    second = {kind: numbered_name(2 * at + 1) for at, kind in enumerate(kinds)}
    end = numbered_name(2 * len(kinds))
    rows = [] if pointer is None else [(end, pointer, RowWalk([[]], [True]))]
    for kind, name, formula in ask.schema.types:
        walk = walk_of(formula)
        rows.append((plain[kind], name, _renamed(walk, plain)))
        rows.append((second[kind], name, _around_answer(walk, plain, second)))
        if kind in ask.marked:
            rows[-1] = (second[kind], name, _at_answer(rows[-1][2], len(walk.nexts), None if pointer is None else end))
    return schema_of_walks(rows, [second[kind] for kind in ask.schema.tops])


def _renamed(walk, names):
    nexts = [[(names.get(letter, letter), other) for letter, other in after] for after in walk.nexts]
    return RowWalk(nexts, walk.ends)


def _around_answer(walk, plain, second):
    """Make the walk through the same rows with one letter as a second type, and all others as they are."""
    # Behind this letter states are so many greater: there all is as in the walk itself.
    many = len(walk.nexts)
    left = _renamed(walk, plain).nexts
    ahead = []
    for own, after in zip(left, walk.nexts):
        ahead.append(own + [(second[letter], other + many) for letter, other in after if letter != ""])
    behind = [[(letter, other + many) for letter, other in own] for own in left]
    return RowWalk(ahead + behind, [False] * many + list(walk.ends))


def _at_answer(walk, many, pointer):
    """Make the walk of an answer, too: through the rows themselves, behind the letter of a pointer if there is one."""
    first = walk.nexts[0] + ([(pointer, many)] if pointer is not None else walk.nexts[many])
    # Rows begin in a state of their own, so that no loop comes back to it.
    nexts = [[(letter, other + 1) for letter, other in after] for after in [first] + walk.nexts]
    return RowWalk(nexts, [pointer is None and walk.ends[many]] + walk.ends)


def answer_beyond(one, other):
    names = node_names(one.schema) + node_names(other.schema)
    free = [numbered_name(number) for number in range(len(names) + 1) if numbered_name(number) not in names]
    node = is_within(pointed(one, free[0]), pointed(other, free[0]))
    return None if node is None else unpointed(node, free[0])


def unanswered(ask):
    return is_within(ask.schema, answered(ask))


def is_idle(ask):
    return is_empty(answered(ask))
