"""Effects: what forests do to the states of a table, and whether they are just one node that it takes."""

from turnsfit.tables import state_of

# What stands alone, behind the numbers of the states.
NOTHING_YET = 0
ONE_TAKEN = 1
ALL_ELSE = 2


def both_effects(one, other):
    return tuple([other[number] for number in one])


def effect_of(table, forest):
    found = no_effect(table)
    for thing in forest:
        if isinstance(thing, str):
            found = both_effects(found, text_effect(table))
        else:
            found = both_effects(found, node_effect(table, state_of(table, thing)))
    return found


def no_effect(table):
    """Tell the effect of a forest without things."""
    return tuple(range(len(table.texts) + 3))


def text_effect(table):
    """Tell the effect of a text."""
    return tuple(table.texts) + (len(table.texts) + ALL_ELSE,) * 3


def node_effect(table, state):
    """Tell the effect of a node with a state."""
    many = len(table.texts)
    alone = many + (ONE_TAKEN if state in table.ends else ALL_ELSE)
    return tuple([step[state] for step in table.steps]) + (alone, many + ALL_ELSE, many + ALL_ELSE)


def is_one_taken(table, effect):
    many = len(table.texts)
    return effect[many + NOTHING_YET] == many + ONE_TAKEN
