"""The documents that a turning leads into a schema: those of a table, and of a schema again."""

from turnsfit.bearings import Bearer, both_bearings, goal_table, made_names
from turnsfit.composed import lean
from turnsfit.effects import is_one_taken
from turnsfit.leasttables import least_states
from turnsfit.tables import Table
from turnsfit.tablesums import schema_of


class LedStates:
    """States of nodes with some names: the name, and the bearing of what stands in the node so far.

    A node in another one counts by its own bearing alone.
    """

    def __init__(self, turning, goal, names):
        self._bearer = Bearer(turning, goal)
        self._known = {}
        self._states = []
        self._child_numbers = {}
        self._bearings = []
        self._texts = []
        self._behind_nodes = []
        self.child_of = []
        self.begins = [self._number_of((name, self._bearer.of_nothing())) for name in names]
        self._finish()

    def _number_of(self, state):
        if state not in self._known:
            self._known[state] = len(self._states)
            self._states.append(state)
            bearing = self._bearer.of_node(state[0], state[1])
            if bearing not in self._child_numbers:
                self._child_numbers[bearing] = len(self._bearings)
                self._bearings.append(bearing)
            self.child_of.append(self._child_numbers[bearing])
        return self._known[state]

    def _finish(self):
        """Find all states, and for each of them the one behind a text, and behind a node of each bearing."""
        of_text = self._bearer.of_text("")
        many = -1
        while many < len(self._states) + len(self._bearings):
            many = len(self._states) + len(self._bearings)
            known = len(self._states)
            for at in range(known):
                if at == len(self._texts):
                    self._texts.append(self._behind(at, of_text))
                    self._behind_nodes.append([])
                left = self._bearings[len(self._behind_nodes[at]):]
                for bearing in left:
                    self._behind_nodes[at].append(self._behind(at, bearing))

    def _behind(self, at, bearing):
        name, known = self._states[at]
        return self._number_of((name, both_bearings(known, bearing)))

    def made_table(self, names, mode):
        """Make the table that takes the nodes of which just one node is made in a mode, which the goal table takes."""
        steps = tuple([tuple([row[child] for child in self.child_of]) for row in self._behind_nodes])
        number = self._bearer.numbers[mode]
        is_end = [is_one_taken(self._bearer.table, bearing[number]) for bearing in self._bearings]
        ends = tuple([state for state, child in enumerate(self.child_of) if is_end[child]])
        return Table(tuple(names), tuple(self.begins), tuple(self._texts), steps, ends)


def led_table(turning, schema, names):
    # What a turning makes is what the same one with the fewest modes makes.
    few = lean(turning)
    return least_states(LedStates(few, goal_table(few, schema), names).made_table(names, few.mode))


def led_into(turning, schema, names):
    return schema_of(led_table(turning, schema, names))


def one_made(turning, names):
    few = lean(turning)
    made = made_names(few)
    # All documents with the names of what is made are taken: one state is enough.
    goal = Table(made, (0,) * len(made), (0,), ((0,),), (0,))
    return least_states(LedStates(few, goal, names).made_table(names, few.mode))
