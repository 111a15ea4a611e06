"""Audits: whether a record tells nothing false, judged by its sheets alone, without any search."""

from turnsfit.deeds import questions_anew
from turnsfit.deskwords import LOOKED_UP, looked_up, question_of, read_line, word_of_names
from turnsfit.errors import InvalidCommand
from turnsfit.facts import all_facts, facts_of
from turnsfit.rooms import Rooms
from turnsfit.sheets import sheet_holds


def audit(record):
    if not isinstance(record, tuple):
        return -1
    rooms = Rooms()
    for at, row in enumerate(record):
        if not _is_right(rooms, row):
            return at
    return None


def _is_right(rooms, row):
    """Tell whether any value is a right row, and go on to what is there behind it."""
    if not isinstance(row, tuple) or len(row) != 3 or not isinstance(row[2], tuple):
        return False
    try:
        word, told = read_line(row[0])
    except InvalidCommand:
        return False
    if not all([sheet_holds(sheet) for sheet in row[2]]):
        return False
    shown = Shown(row[2])
    expected = _call_outcome(rooms, told, shown) if word == "call" else _outcome(rooms, word, told, shown)
    if expected is None or not _is_just(row[1], expected):
        return False
    if word == "call" and expected == ("did", "done") and told[0] not in ("undo", "redo"):
        rooms.take(told, rooms.behind(told)[1])
    return True


class Shown:
    """The facts that sheets show, and what follows from them where they do not tell an answer themselves."""

    def __init__(self, sheets):
        self._given = [fact for sheet in sheets for fact in facts_of(sheet)]
        self._all = None

    def answer(self, word, question):
        """Tell the answer of the fact with a word and a question, None if there is none."""
        found = _answers(self._given, word, question)
        if not found:
            if self._all is None:
                self._all = all_facts(self._given)
            found = _answers(self._all, word, question)
        return found[0] if found else None


def _answers(facts, word, question):
    return [fact[2] for fact in facts if fact[0] == word and fact[1] == question]


def _is_just(value, expected):
    """Tell whether any value is an outcome: here no bool is equal to an integer."""
    waiting = [(value, expected)]
    while waiting:
        one, other = waiting.pop()
        if isinstance(other, tuple):
            if not isinstance(one, tuple) or len(one) != len(other):
                return False
            waiting.extend(list(zip(one, other)))
        elif isinstance(one, bool) != isinstance(other, bool) or one != other:
            return False
    return True


def _outcome(rooms, word, names, shown):
    """Tell the outcome of a question, None if it is not shown."""
    refused = word_of_names(rooms, word, names)
    if refused is not None:
        return ("refused", refused)
    if word in LOOKED_UP:
        return ("told", looked_up(rooms, word, names))
    question = question_of(rooms, word, names)
    answer = shown.answer(word, question)
    if word == "cost" and answer is None and shown.answer("empty", question[0]) is True:
        return ("refused", "empty")
    return None if answer is None else ("told", answer)


def _call_outcome(rooms, call, shown):
    """Tell the outcome of a call, None if it is not shown; undo and redo are done at once."""
    if call[0] in ("undo", "redo"):
        return ("did", rooms.go_back(call[0]))
    word, things = rooms.behind(call)
    if word is None:
        word = "nothing" if things == rooms.there else _word_shown(rooms.there, things, shown)
    return None if word is None else ("did", word)


def _word_shown(before, after, shown):
    """Tell the word of a call behind which some things are there, None if it is not shown."""
    documents, links = questions_anew(before, after)
    fit = [shown.answer("fits", question) for _, question in documents]
    if False in fit:
        return "bars"
    if None in fit:
        return None
    led = [shown.answer("leads", question) for _, question in links]
    if False in led:
        return "breaks"
    return None if None in led else "done"
