"""What the tests share: odd values, random things, and a check of errors."""

import itertools
import random
import unittest

from turnsfit.rowtables import RowTable
from turnsfit.schemas import Schema
from turnsfit.tables import Table
from turnsfit.turnings import Turning

GREAT = 10 ** 3999 + 7
LETTERS = ("", "a", "b", "c")
NAMES = ("a", "b", "c", "item")


def nested(inner, depth, make):
    """Put a value in others, so many deep."""
    for _ in range(depth):
        inner = make(inner)
    return inner


def odd_values():
    """Values of every kind, few of which are anything that the package describes."""
    deep_tuple = nested((), 79, lambda inner: (inner,))
    deep_list = nested([], 79, lambda inner: [inner])
    deep_pair = nested(1, 79, lambda inner: ("a", (inner,)))
    plain = [0, 1, -1, GREAT, -GREAT, True, False, None, "", "a", "open", "one", "A", "\ud800\x00\u0661%", "\u00e9" * 9,
             "a" * 5000, (), [], ("a",), ["a", ()], ("a", []), ((), ()), (1, 2, 3), (True, False), (None,)]
    deep = [deep_tuple, deep_list, deep_pair, ("star", deep_list), ("row", deep_tuple), ("a", deep_tuple),
            ("one", deep_tuple), ("either", (deep_list,)), ("put", deep_tuple, deep_list, GREAT)]
    words = [(word,) + rest for word in ("one", "text", "empty", "row", "star", "open", "close", "put", "say", "go",
                                         "keep", "node", "drop", "name")
             for rest in ((), (1,), ("",), ((),), ("a", ()), ((), 0, "x"), (None, None, None))]
    objects = [make(one, other) for make in (Schema, Turning) for one in (1, (), [], "a", deep_list, (1,))
               for other in ((), "a", None)]
    objects += [RowTable(one, other, third) for one in ((), ("a",), 5) for other in ((), ((0,),), deep_list)
                for third in ((), (0,), (True,), None)]
    objects += [Table(one, (), other, (), ()) for one in ((), ("a",), None) for other in ((), (0,), deep_list)]
    wrapped = [(one,) for one in objects[:6]] + [[one, one] for one in objects[:3]]
    wrapped += [(one, ()) for one in objects[:3]] + [("a", (one,)) for one in objects[:3]]
    return plain + deep + words + objects + wrapped


class Case(unittest.TestCase):
    def fails(self, error, kept, function, *args, **named):
        """Check that a call raises just this error, and what the error keeps."""
        with self.assertRaises(error) as caught:
            function(*args, **named)
        self.assertIs(type(caught.exception), error)
        if kept is not None:
            self.assertEqual(list(vars(caught.exception).values()), [kept])

    def told_for_any_value(self, function, *errors):
        """Check that only some errors are raised, whatever the value."""
        for value in odd_values():
            try:
                function(value)
            except errors:
                pass


def random_formula(chance, depth, letters=LETTERS):
    kind = chance.random()
    if depth == 0 or kind < .3:
        letter = chance.choice(tuple(letters) + (None,))
        return ("empty",) if letter is None else ("one", letter) if letter else ("text",)
    if kind < .7:
        parts = tuple([random_formula(chance, depth - 1, letters) for _ in range(chance.randint(1, 3))])
        return (chance.choice(("row", "either")), parts)
    return (chance.choice(("star", "some", "maybe")), random_formula(chance, depth - 1, letters))


def rows_up_to(letters, length):
    """All rows up to a length, shorter ones first, then ascending."""
    return [row for many in range(length + 1) for row in itertools.product(letters, repeat=many)]


def _joined(rows, others, most):
    return {one + other for one in rows for other in others if len(one) + len(other) <= most}


def spelled(formula, most):
    """The rows up to a length that a formula spells, straight from what the shapes mean."""
    word = formula[0]
    if word in ("one", "text"):
        return {("" if word == "text" else formula[1],)}
    if word == "empty":
        return {()}
    if word == "either":
        return set().union(*[spelled(part, most) for part in formula[1]])
    if word == "row":
        rows = {()}
        for part in formula[1]:
            rows = _joined(rows, spelled(part, most), most)
        return rows
    pieces = spelled(formula[1], most)
    if word == "maybe":
        return pieces | {()}
    rows = pieces if word == "some" else pieces | {()}
    while True:
        more = rows | _joined(rows, pieces, most)
        if more == rows:
            return rows
        rows = more


def random_forest(chance, depth):
    if depth <= 0:
        return tuple([chance.choice(("", "x", "a 1")) for _ in range(chance.randint(0, 1))])
    return tuple([random_node(chance, depth) if chance.random() < .6 else chance.choice(("", "x", "a 1"))
                  for _ in range(chance.randint(0, 3))])


def random_node(chance, depth):
    return (chance.choice(NAMES), random_forest(chance, depth - 1))


def seeded(number):
    return random.Random(number)
