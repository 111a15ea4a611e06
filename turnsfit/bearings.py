"""Bearings: the effects of what is made of forests, mode by mode."""

from turnsfit.effects import both_effects, no_effect, node_effect, text_effect
from turnsfit.leasttables import least_states
from turnsfit.making import all_parts, parts_worked_out
from turnsfit.nodes import built
from turnsfit.schemas import node_names
from turnsfit.tables import table_of
from turnsfit.turnings import modes_of


def made_names(turning):
    found = [part[1] for rule in turning.rules for part in all_parts(rule[2]) if part[0] == "node"]
    return tuple(sorted(set(found)))


def goal_table(turning, schema):
    names = sorted(set(node_names(schema) + made_names(turning)))
    return least_states(table_of(schema, names))


class Bearer:
    """Tells the bearings of things for a turning and a table, from those of what stands in them."""

    def __init__(self, turning, table):
        self.table = table
        self.modes = modes_of(turning)
        self.numbers = {mode: number for number, mode in enumerate(self.modes)}
        self.rules = {(mode, letter): parts for mode, letter, parts in turning.rules}
        self.begins = {name: begin for name, begin in zip(table.names, table.begins)}

    def of_nothing(self):
        return (no_effect(self.table),) * len(self.modes)

    def of_text(self, _):
        nothing = self.of_nothing()
        return tuple([self._of_rule((mode, ""), nothing, nothing[0]) for mode in self.modes])

    def of_node(self, name, bearing):
        return tuple([self._of_rule((mode, name), bearing, effect) for mode, effect in zip(self.modes, bearing)])

    def _of_rule(self, key, bearing, otherwise):
        """Tell the effect of what a rule makes around things of a bearing, another one if there is no rule."""
        if key not in self.rules:
            return otherwise
        return self._joined(parts_worked_out(self.rules[key], lambda part, inner: self._of_part(part, inner, bearing)))

    def _of_part(self, part, inner, bearing):
        if part[0] == "go":
            return bearing[self.numbers[part[1]]]
        if part[0] == "node":
            return node_effect(self.table, self._joined(inner)[self.begins[part[1]]])
        return text_effect(self.table)

    def _joined(self, effects):
        found = no_effect(self.table)
        for effect in effects:
            found = both_effects(found, effect)
        return found

    def of_forest(self, forest):
        return self.in_row([built(thing, self.of_text, self._of_inner) for thing in forest])

    def _of_inner(self, name, inner):
        return self.of_node(name, self.in_row(inner))

    def in_row(self, found):
        """Tell the bearing of things with some bearings, one behind another."""
        bearing = self.of_nothing()
        for other in found:
            bearing = both_bearings(bearing, other)
        return bearing


def no_bearing(turning, table):
    return Bearer(turning, table).of_nothing()


def text_bearing(turning, table):
    return Bearer(turning, table).of_text("")


def node_bearing(turning, table, name, bearing):
    return Bearer(turning, table).of_node(name, bearing)


def both_bearings(one, other):
    return tuple([both_effects(first, second) for first, second in zip(one, other)])


def bearing_of(turning, table, forest):
    return Bearer(turning, table).of_forest(forest)
