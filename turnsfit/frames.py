"""Frames: documents with a hole."""

from turnsfit.nodes import is_forest
from turnsfit.places import need_place
from turnsfit.words import is_name


def is_frame(value):
    return isinstance(value, tuple) and all([_is_triple(triple) for triple in value])


def _is_triple(value):
    if not isinstance(value, tuple) or len(value) != 3:
        return False
    return is_name(value[0]) and is_forest(value[1]) and is_forest(value[2])


def frame_at(node, place):
    need_place(node, place)
    frame = []
    thing = node
    for number in place:
        name, things = thing
        frame.append((name, things[:number], things[number + 1:]))
        thing = things[number]
    return tuple(frame)


def framed(frame, thing):
    made = thing
    for name, ahead, after in frame[::-1]:
        made = (name, ahead + (made,) + after)
    return made


def frame_place(frame):
    return tuple([len(ahead) for _, ahead, _ in frame])
