"""What is made around a place of a document."""

from turnsfit.making import Making, PartMaker, forest_parts
from turnsfit.places import place_number


def said_parts(forest):
    return forest_parts(forest)


def parts_around(turning, node, place):
    number = place_number(node, place)
    making = Making(turning, forest_parts((node,)), PartMaker())
    making.leave(number)
    return making.of_all(turning.mode)
