"""Marks of nodes: a name, a state of a table, and the bearing of what stands in the node."""

from turnsfit.alike import column_classes, firsts_of
from turnsfit.bearings import Bearer, both_bearings
from turnsfit.effects import is_one_taken
from turnsfit.leastgrowth import TEXT


class MarkJudge:
    """Tells how marks go on, and which are led amiss, for a turning, the least table of a schema, and a goal table."""

    def __init__(self, turning, least, goal):
        self.least = least
        self.goal = goal
        self.bearer = Bearer(turning, goal)
        self.lost = _lost_state(least)
        self.begins = {name: begin for name, begin in zip(least.names, least.begins)}
        self.child_classes = column_classes(least.steps)
        self.firsts = firsts_of(self.child_classes)
        self._mode = self.bearer.numbers[turning.mode]
        self._text_bearing = self.bearer.of_text("")
        self._node_bearings = {}

    def begun(self, name):
        """Tell the mark of a node with nothing in it, None if its state is lost."""
        return self._unless_lost((name, self.begins[name], self.bearer.of_nothing()))

    def _unless_lost(self, mark):
        return None if mark[1] == self.lost else mark

    def behind_text(self, mark):
        """Tell the mark behind a text, None if its state is lost."""
        name, state, bearing = mark
        return self._unless_lost((name, self.least.texts[state], both_bearings(bearing, self._text_bearing)))

    def behind_node(self, mark, sort):
        """Tell the mark behind a node of a sort, None if its state is lost."""
        name, state, bearing = mark
        after = self.least.steps[state][self.firsts[sort[0]]]
        return None if after == self.lost else (name, after, both_bearings(bearing, sort[1]))

    def child_sort(self, mark):
        """Tell by what a node of a mark counts in another one: what its state is as a child, and its own bearing."""
        return (self.child_classes[mark[1]], self._node_bearing(mark))

    def _node_bearing(self, mark):
        key = (mark[0], mark[2])
        if key not in self._node_bearings:
            self._node_bearings[key] = self.bearer.of_node(mark[0], mark[2])
        return self._node_bearings[key]

    def is_amiss(self, mark):
        """Tell whether nodes of a mark are documents of the schema that are not led into the other one."""
        return mark[1] in self.least.ends and not is_one_taken(self.goal, self._node_bearing(mark)[self._mode])


def _lost_state(table):
    """Tell the state that is no end, and from which all leads to itself alone; None if there is none."""
    many = len(table.texts)
    for state in range(many):
        after = (table.texts[state],) + table.steps[state] + tuple([step[state] for step in table.steps])
        if state not in table.ends and after == (state,) * (2 * many + 1):
            return state
    return None


class MarkGrowth:
    """All marks of nodes with names of the table, and how they go on."""

    def __init__(self, judge):
        self._judge = judge
        self._known = {}
        self.marks = []
        self.nexts = []
        self._looked_at = []
        self._sort_numbers = {}
        self._told = []
        self.sorts = []
        self.begins = []
        for name in judge.least.names:
            mark = judge.begun(name)
            if mark is not None:
                self.begins.append((name, self._number_of(mark)))
        self._finish()

    def _number_of(self, mark):
        if mark not in self._known:
            self._known[mark] = len(self.marks)
            self.marks.append(mark)
            self.nexts.append([])
            self._looked_at.append(None)
            sort = self._judge.child_sort(mark)
            if sort not in self._sort_numbers:
                self._sort_numbers[sort] = len(self._told)
                self._told.append(sort)
            self.sorts.append([self._sort_numbers[sort]])
        return self._known[mark]

    def _finish(self):
        many = -1
        while many < len(self.marks) + len(self._told):
            many = len(self.marks) + len(self._told)
            known = len(self.marks)
            for number in range(known):
                self._go_on(number)

    def _go_on(self, number):
        """Find the marks behind a text, and behind nodes of the sorts that were not looked at yet."""
        mark = self.marks[number]
        if self._looked_at[number] is None:
            self._looked_at[number] = 0
            self._note(number, TEXT, self._judge.behind_text(mark))
        first = self._looked_at[number]
        self._looked_at[number] = len(self._told)
        left = self._told[first:]
        for at, sort in enumerate(left):
            self._note(number, first + at, self._judge.behind_node(mark, sort))

    def _note(self, number, thing, mark):
        if mark is not None:
            self.nexts[number].append((thing, self._number_of(mark)))

    def many_sorts(self):
        return len(self._told)
