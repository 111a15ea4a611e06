"""Schemas: which documents there may be."""

from turnsfit.errors import InvalidSchema, NoName
from turnsfit.formulas import is_formula, letters_of
from turnsfit.words import are_ascending_names, is_name


class Schema:
    def __init__(self, types, tops):
        self.types = types
        self.tops = tops

    def __eq__(self, other):
        return isinstance(other, Schema) and self.types == other.types and self.tops == other.tops


def need_schema(value):
    if not isinstance(value, Schema) or not isinstance(value.types, tuple):
        raise InvalidSchema(-1)
    for at, triple in enumerate(value.types):
        if not _is_triple(triple) or (at > 0 and triple[0] <= value.types[at - 1][0]):
            raise InvalidSchema(at)
    known = {triple[0]: True for triple in value.types}
    for at, triple in enumerate(value.types):
        if not all([letter == "" or letter in known for letter in letters_of(triple[2])]):
            raise InvalidSchema(at)
    if not are_ascending_names(value.tops) or not all([kind in known for kind in value.tops]):
        raise InvalidSchema(len(value.types))


def _is_triple(value):
    if not isinstance(value, tuple) or len(value) != 3:
        return False
    return is_name(value[0]) and is_name(value[1]) and is_formula(value[2])


def is_schema(value):
    try:
        need_schema(value)
    except InvalidSchema:
        return False
    return True


def kinds_of(schema):
    return tuple([kind for kind, _, _ in schema.types])


def name_for(schema, kind):
    return _triple_for(schema, kind)[1]


def formula_for(schema, kind):
    return _triple_for(schema, kind)[2]


def _triple_for(schema, kind):
    for triple in schema.types:
        if triple[0] == kind:
            return triple
    raise NoName(kind)


def kinds_named(schema, name):
    return tuple([kind for kind, other, _ in schema.types if other == name])


def node_names(schema):
    return tuple(sorted({name for _, name, _ in schema.types}))
