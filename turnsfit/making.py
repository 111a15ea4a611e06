"""What turnings make, worked out once for each thing and mode that is needed.

What is turned are parts as rules have them: nodes, texts said, texts kept (in
rules for texts), and "go", for things of which nothing is known yet. What is
told of what is made is up to a maker.
"""

from turnsfit.nodes import built
from turnsfit.stacks import taken

LEFT = ("go", "")


def forest_parts(forest):
    """Make the parts that make just this forest."""
    return tuple([built(thing, _say, _node) for thing in forest])


def _say(text):
    return ("say", text)


def _node(name, parts):
    return ("node", name, tuple(parts))


def parts_within(part):
    """Tell the parts right within a part."""
    return part[2] if part[0] == "node" else ()


def all_parts(parts):
    """List parts and all in them, in the order of reading."""
    waiting = list(parts[::-1])
    found = []
    while waiting:
        part = waiting.pop()
        found.append(part)
        waiting.extend(parts_within(part)[::-1])
    return found


def parts_worked_out(parts, of_part):
    """Work parts out from below: of_part(part, list of what the parts in it gave)."""
    made = []
    for part in all_parts(parts)[::-1]:
        made.append(of_part(part, taken(made, len(parts_within(part)))))
    return made[::-1]


def goes_within(parts):
    """List the modes of all "go", as they are read."""
    return [part[1] for part in all_parts(parts) if part[0] == "go"]


def goes_once(parts):
    """List the modes of all "go", each once."""
    return sorted(set(goes_within(parts)))


class Making:
    """A turning at work on parts, for a maker with the methods joined, node_made, text_made, text_kept and gone_to."""

    def __init__(self, turning, parts, maker):
        self.rules = {(mode, letter): made for mode, letter, made in turning.rules}
        self.maker = maker
        self.parts = all_parts(parts)
        self.inside = [()] * len(self.parts)
        self.roots = self._numbered_inside()
        self.goes = {}
        self.made = {}

    def _numbered_inside(self):
        """Note the numbers of the parts right within each part, and tell those of the outermost."""
        numbers = []
        for at in range(len(self.parts) - 1, -1, -1):
            self.inside[at] = taken(numbers, len(parts_within(self.parts[at])))
            numbers.append(at)
        return numbers[::-1]

    def leave(self, number):
        """Take a part as something of which nothing is known."""
        self.parts[number] = LEFT
        self.inside[number] = ()

    def of_all(self, mode):
        """Work out what is made of all parts in a mode."""
        self._prepare([mode])
        return self._of_numbers(self.roots, mode)

    def of_rule_around(self, rule):
        """Work out what a rule for nodes makes of a node in which the parts stand."""
        self._prepare(goes_once(rule))
        return self._of_rule(rule, -1)

    def _prepare(self, modes):
        # Only what the result needs is worked out, and once: what is made
        # of things elsewhere can be greater than anything that could be built.
        queue = []
        met = {}
        self._need(queue, met, self.roots, modes)
        at = 0
        while at < len(queue):
            number, mode = queue[at]
            self._need(queue, met, self.inside[number], self._modes_inside(number, mode))
            at += 1
        for number, mode in sorted(queue, reverse=True):
            self.made[number, mode] = self._of_part(number, mode)

    def _need(self, queue, met, numbers, modes):
        for mode in modes:
            for number in numbers:
                if (number, mode) not in met:
                    met[number, mode] = True
                    queue.append((number, mode))

    def _modes_inside(self, number, mode):
        """List the modes in which the parts within a part are needed."""
        key = (mode, self._letter(number))
        if key not in self.goes:
            self.goes[key] = goes_once(self.rules[key]) if key in self.rules else [mode]
        return self.goes[key]

    def _letter(self, number):
        part = self.parts[number]
        return part[1] if part[0] == "node" else ""

    def _of_part(self, number, mode):
        if self.parts[number][0] == "go":
            return self.maker.gone_to(self.parts[number], mode)
        rule = self.rules.get((mode, self._letter(number)))
        if rule is None:
            return self._of_numbers(self.inside[number], mode)
        return self._of_rule(rule, number)

    def _of_numbers(self, numbers, mode):
        return self.maker.joined([self.made[number, mode] for number in numbers])

    def _of_rule(self, rule, number):
        inside = self.roots if number < 0 else self.inside[number]
        gone = {mode: self._of_numbers(inside, mode) for mode in goes_once(rule)}
        return self.maker.joined(parts_worked_out(rule, lambda part, inner: self._of_own(part, inner, number, gone)))

    def _of_own(self, part, inner, number, gone):
        """Work out what one part of a rule makes of the part with a number."""
        if part[0] == "go":
            return gone[part[1]]
        if part[0] == "node":
            return self.maker.node_made(part[1], self.maker.joined(inner), number)
        if part[0] == "say":
            return self.maker.text_made(part[1], number)
        if self.parts[number][0] == "say":
            return self.maker.text_made(self.parts[number][1], number)
        return self.maker.text_kept()


def _one_behind_another(rows):
    found = []
    for row in rows:
        found.extend(row)
    return tuple(found)


class ForestMaker:
    """Tells the forest that is made."""

    def joined(self, forests):
        return _one_behind_another(forests)

    def node_made(self, name, forest, _):
        return ((name, forest),)

    def text_made(self, text, _):
        return (text,)


class SizeMaker:
    """Tells how many nodes and texts are made."""

    def joined(self, sizes):
        return sum(sizes)

    def node_made(self, _, size, number):
        return size + 1

    def text_made(self, _, number):
        return 1


class OriginMaker:
    """Tells, in the order of reading, of which part by its number each thing is made."""

    def joined(self, rows):
        return _one_behind_another(rows)

    def node_made(self, _, row, number):
        return (number,) + row

    def text_made(self, _, number):
        return (number,)


class PartMaker:
    """Tells the parts of a rule that make what is made."""

    def joined(self, rows):
        return _one_behind_another(rows)

    def node_made(self, name, parts, _):
        return (("node", name, parts),)

    def text_made(self, text, _):
        return (("say", text),)

    def text_kept(self):
        return (("keep",),)

    def gone_to(self, _, mode):
        return (("go", mode),)
