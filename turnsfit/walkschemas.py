"""Schemas of types whose rows are told by walks."""

from turnsfit.rowwalks import few_states, formula_between, useful
from turnsfit.schemas import Schema


def schema_of_walks(rows, tops):
    """Make the schema of some triples (type, name, walk) and tops, with just the types of some typing of a document."""
    known = _alive(rows)
    names = {kind: name for kind, name, _ in rows}
    walks = {kind: walk for kind, _, walk in rows}
    made = {}
    queue = [kind for kind in tops if kind in known]
    for kind in queue:
        made[kind] = True
    at = 0
    while at < len(queue):
        kind = queue[at]
        at += 1
        walk = few_states(useful(walks[kind], known))
        made[kind] = formula_between(walk)
        for letter in sorted({letter for after in walk.nexts for letter, _ in after}):
            if letter != "" and letter not in made:
                made[letter] = True
                queue.append(letter)
    triples = [(kind, names[kind], made[kind]) for kind in sorted(made)]
    return Schema(tuple(triples), tuple(sorted([kind for kind in tops if kind in known])))


def _alive(rows):
    """Give the letter of texts, and each type that some node can be given, a True."""
    known = {"": True}
    many = -1
    while many < len(known):
        many = len(known)
        for kind, _, walk in rows:
            if kind not in known and useful(walk, known) is not None:
                known[kind] = True
    return known
