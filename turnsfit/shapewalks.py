"""Shapes found by their numbers, and numbers of shapes, sign by sign as they are read."""

from turnsfit.fitting import fits
from turnsfit.marks import marks_of, node_of
from turnsfit.shapecounts import OpenNode, ShapeCounts

CLOSE = ("close",)
TEXT = ("text", "")


class ShapeWalk:
    """Goes through the marks of shapes of a schema.

    Shapes of one size ascend as their marks do, if the close of a node comes
    ahead of a text, and this ahead of nodes, by their names. At each mark it
    is counted how many shapes go on with it.
    """

    def __init__(self, schema):
        self.schema = schema
        self.counts = ShapeCounts(schema)
        self.top = OpenNode(self.counts, None, None)

    def takes(self, node):
        return fits(self.schema, node)

    def shape(self, size, number):
        """Tell the shape of a size with a number below how many there are."""
        self.counts.grow_to(size)
        marks = []
        place = None
        while place is None or place.around is not None:
            for mark, many, after in self._choices(place, size):
                if number < many:
                    break
                number -= many
            marks.append(mark)
            place = after
        return node_of(marks)

    def number(self, node):
        """Tell the number of a shape that fits among those of its size."""
        marks = marks_of(node)
        size = len([mark for mark in marks if mark != CLOSE])
        self.counts.grow_to(size)
        number = 0
        place = None
        for own in marks:
            for mark, many, after in self._choices(place, size):
                if mark == own:
                    break
                number += many
            place = after
        return number

    def _choices(self, place, size):
        """List the marks that may come next, each with how many shapes go on with it, and the place then."""
        if place is None:
            return [self._opening(name, size) for name in self.counts.names]
        return place.choices()

    def _opening(self, name, size):
        """Tell the first mark of shapes with a name, how many they are, and the place behind it."""
        begin = self.counts.begins[name]
        self.top.prepare(begin, size - 1)
        outer = Place(None, self.top, None, size)
        return (("open", name), self.top.many_from(begin, size - 1), outer.within(self.top, begin, size - 1))


class Place:
    """Where a walk is: an open node, its state, how much is left, and the place around it; closed if it has none."""

    def __init__(self, around, node, state, left):
        self.around = around
        self.node = node
        self.state = state
        self.left = left

    def within(self, node, state, left):
        """Tell the place within this one, in a node at a state."""
        return Place(self, node, state, left)

    def choices(self):
        self.node.prepare(self.state, self.left)
        found = [(CLOSE, self.node.closing(self.state, self.left), self._closed())]
        counts = self.node.counts
        text = counts.texts[self.state]
        if text is not None and self.left > 0:
            after = Place(self.around, self.node, text, self.left - 1)
            found.append((TEXT, self.node.rows[text][self.left - 1], after))
        for name in counts.names:
            many = self.node.with_node(self.state, name, self.left)
            if many > 0:
                inner = self.within(self.node.opened(self.state), counts.begins[name], self.left - 1)
                found.append((("open", name), many, inner))
        return found

    def _closed(self):
        """Tell the place behind this node, in the node around it."""
        around = self.around
        if around.around is None:
            return around
        return Place(around.around, around.node, self.node.state_around(self.state), self.left)
