"""Turnings one behind another, and turnings with the fewest modes."""

from turnsfit.alike import numbered
from turnsfit.making import Making, PartMaker, goes_within, parts_worked_out
from turnsfit.turnings import Turning
from turnsfit.turningtext import parts_text
from turnsfit.words import numbered_name

# The text of parts that are one "go", without its mode.
GO_ALONE = "!"


def composed(one, other):
    rules = _rules_by_mode(one)
    maker = PairMaker()
    mode = maker.name_of(one.mode, other.mode)
    made = []
    at = 0
    while at < len(maker.pairs):
        first, second = maker.pairs[at]
        for letter, parts in rules.get(first, []):
            made.append((numbered_name(at), letter, Making(other, parts, maker).of_all(second)))
        at += 1
    return Turning(_in_order(made), mode)


class PairMaker(PartMaker):
    """Makes parts with pairs of modes, which are named as they are met."""

    def __init__(self):
        self.pairs = []
        self.numbers = {}

    def name_of(self, first, second):
        if (first, second) not in self.numbers:
            self.numbers[first, second] = len(self.pairs)
            self.pairs.append((first, second))
        return numbered_name(self.numbers[first, second])

    def gone_to(self, part, mode):
        return (("go", self.name_of(part[1], mode)),)


def _rules_by_mode(turning):
    """Give each mode with rules the list of its letters and their parts."""
    rules = {}
    for mode, letter, parts in turning.rules:
        rules.setdefault(mode, []).append((letter, parts))
    return rules


def _in_order(rules):
    return tuple(sorted(rules, key=lambda rule: (rule[0], rule[1])))


def composed_all(turnings):
    made = turnings[0]
    for turning in turnings[1:]:
        made = composed(made, turning)
    return made


def keeping(names):
    rules = [("a", "", (("keep",),))]
    for name in sorted(set(names)):
        rules.append(("a", name, (("node", name, (("go", "a"),)),)))
    return Turning(tuple(rules), "a")


def lean(turning):
    rules = _rules_by_mode(turning)
    modes = _met(turning.mode, lambda mode: _modes_in(rules.get(mode, [])))
    shapes = {mode: _shapes(rules.get(mode, [])) for mode in modes}
    lots = _lots(shapes)
    counting = {lots[mode]: _counting(shapes[mode], lots[mode], lots) for mode in modes}
    order = _met(lots[turning.mode], lambda lot: [lots[after] for row in counting[lot] for after in row[2]])
    names = {lot: numbered_name(at) for at, lot in enumerate(order)}
    named = {other: names[lots[other]] for other in lots}
    made = [(names[lot], row[0], _renamed(row[3], named)) for lot in order for row in counting[lot]]
    return Turning(_in_order(made), numbered_name(0))


def _modes_in(rows):
    """List the modes to which rules of one mode go, as they are read."""
    return [mode for _, parts in rows for mode in goes_within(parts)]


def _met(first, after):
    """List what is met from a first thing on, after(thing) being what each leads to."""
    queue = [first]
    met = {first: True}
    at = 0
    while at < len(queue):
        following = after(queue[at])
        for other in following:
            if other not in met:
                met[other] = True
                queue.append(other)
        at += 1
    return queue


def _shapes(rows):
    """List rules of one mode: the letter, the text but for modes, the modes, and the parts."""
    found = []
    for letter, parts in rows:
        modes = goes_within(parts)
        found.append((letter, parts_text(_renamed(parts, {mode: "" for mode in modes})), modes, parts))
    return found


def _lots(shapes):
    """Give each mode the number of its lot: the fewest lots, parted until nothing parts them more."""
    modes = list(shapes)
    lots = {mode: 0 for mode in modes}
    many = 0
    while many < max(list(lots.values())) + 1:
        many = max(list(lots.values())) + 1
        found = numbered([(lots[mode], _signature(shapes[mode], lots[mode], lots)) for mode in modes])
        lots = {mode: lot for mode, lot in zip(modes, found)}
    return lots


def _signature(rows, lot, lots):
    """Tell the rules that count, up to modes of one lot."""
    return tuple([(letter, text) + tuple([lots[mode] for mode in modes])
                  for letter, text, modes, _ in _counting(rows, lot, lots)])


def _counting(rows, lot, lots):
    """List the rules that count in modes of a lot."""
    return [row for row in rows if _counts(row[0], row[1], [lots[mode] for mode in row[2]], lot)]


def _counts(letter, text, after, lot):
    if letter == "":
        return text != ""
    return text != GO_ALONE or after[0] != lot


def _renamed(parts, named):
    """Make the same parts with other names of modes."""
    return tuple(parts_worked_out(parts, lambda part, inner: _renamed_above(part, inner, named)))


def _renamed_above(part, inner, named):
    if part[0] == "node":
        return ("node", part[1], tuple(inner))
    return ("go", named[part[1]]) if part[0] == "go" else part
