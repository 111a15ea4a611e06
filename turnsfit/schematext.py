"""Texts of schemas, there and back."""

from turnsfit.errors import InvalidText
from turnsfit.formulatext import formula_text, read_formula
from turnsfit.schemas import Schema, need_schema
from turnsfit.words import are_ascending_names, is_name

NO_TOPS = "-"


def schema_text(schema):
    pieces = [" ".join(schema.tops) if schema.tops else NO_TOPS]
    for kind, name, formula in schema.types:
        pieces.append(kind + " " + name + " " + formula_text(formula))
    return ", ".join(pieces)


def read_schema(text):
    if not isinstance(text, str):
        raise InvalidText(-1)
    pieces = text.split(", ")
    tops = () if pieces[0] == NO_TOPS else tuple(pieces[0].split(" "))
    if not are_ascending_names(tops):
        raise InvalidText(0)
    triples = []
    for at in range(1, len(pieces)):
        triple = _triple(pieces[at])
        if triple is None or (triples and triple[0] <= triples[-1][0]):
            raise InvalidText(at)
        triples.append(triple)
    schema = Schema(tuple(triples), tops)
    need_schema(schema)
    return schema


def _triple(piece):
    """Read a triple, None where a piece is no text of one."""
    kind, _, rest = piece.partition(" ")
    name, _, formula = rest.partition(" ")
    if not is_name(kind) or not is_name(name):
        return None
    try:
        return (kind, name, read_formula(formula))
    except InvalidText:
        return None
