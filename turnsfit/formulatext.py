"""Texts of formulas, there and back."""

from turnsfit.errors import InvalidText
from turnsfit.formulaparts import worked_out
from turnsfit.words import NAME_MOST, NAME_SIGNS

BRACKETS = {"row": "()", "either": "[]"}
BEGINS = {"(": "row", "[": "either"}
CLOSES = {"row": ")", "either": "]"}
SIGNS = {"star": "*", "some": "+", "maybe": "?"}
WORDS = {"*": "star", "+": "some", "?": "maybe"}
SINGLE = {"#": ("text",), "-": ("empty",)}


def formula_text(formula):
    return worked_out(formula, _text_above)


def _text_above(formula, texts):
    word = formula[0]
    if word == "one":
        return formula[1]
    if word in BRACKETS:
        return BRACKETS[word][0] + " ".join(texts) + BRACKETS[word][1]
    if word in SIGNS:
        return texts[0] + SIGNS[word]
    return "#" if word == "text" else "-"


def read_formula(text):
    if not isinstance(text, str):
        raise InvalidText(-1)
    words = []
    rows = [[]]
    behind = False
    at = 0
    while at < len(text):
        sign = text[at]
        end = at + 1
        if behind and sign in WORDS:
            part = rows[-1].pop()
            rows[-1].append((WORDS[sign], part))
        elif behind and words and sign == CLOSES[words[-1]]:
            parts = rows.pop()
            rows[-1].append((words.pop(), tuple(parts)))
        elif behind and words and sign == " ":
            behind = False
        elif not behind and sign in BEGINS:
            words.append(BEGINS[sign])
            rows.append([])
        elif not behind and sign in SINGLE:
            rows[-1].append(SINGLE[sign])
            behind = True
        elif not behind and sign in NAME_SIGNS:
            end = _name_end(text, at)
            rows[-1].append(("one", text[at:end]))
            behind = True
        else:
            raise InvalidText(at)
        at = end
    if words or not behind:
        raise InvalidText(len(text))
    return rows[0][0]


def _name_end(text, at):
    end = at
    while end < len(text) and end - at < NAME_MOST and text[end] in NAME_SIGNS:
        end += 1
    return end
