"""Desks: lines told to a house and asked of it, and a record of them with sheets that show each outcome."""

from turnsfit.alive import is_empty
from turnsfit.deeds import questions_anew
from turnsfit.deskwords import LOOKED_UP, looked_up, question_of, read_line, word_of_names
from turnsfit.doubled import two_typings
from turnsfit.exchanges import plain_or_exchange
from turnsfit.fitting import fits
from turnsfit.house import House
from turnsfit.joined import is_within
from turnsfit.judged import Leads, verdict
from turnsfit.mended import distance
from turnsfit.showing import sheet_showing


class Desk:
    def __init__(self):
        self._house = House()
        self._rows = []

    def say(self, line):
        word, told = read_line(line)
        if word == "call":
            outcome, questions = self._done(told)
        else:
            outcome, questions = self._answered(word, told)
        self._rows.append((line, outcome, questions))
        return outcome

    def _done(self, call):
        """Do a call: the outcome, and the words and questions of the facts that show it."""
        rooms = self._house.rooms_now()
        word = self._house.do(call)
        if call[0] in ("undo", "redo") or word not in ("done", "bars", "breaks"):
            return (("did", word), [])
        documents, links = questions_anew(rooms.there, rooms.behind(call)[1])
        name = None if word == "done" else self._house.why_now()[1]
        if word == "bars":
            documents = [pair for pair in documents if pair[0] == name]
        if word != "done":
            links = [pair for pair in links if pair[0] == name]
        return (("did", word), [("fits", pair[1]) for pair in documents] + [("leads", pair[1]) for pair in links])

    def _answered(self, word, names):
        """Answer a question: the outcome, and the words and questions of the facts that show it."""
        rooms = self._house.rooms_now()
        refused = word_of_names(rooms, word, names)
        if refused is not None:
            return (("refused", refused), [])
        if word in LOOKED_UP:
            return (("told", looked_up(rooms, word, names)), [])
        question = question_of(rooms, word, names)
        answer = _answer(word, question)
        outcome = ("refused", "empty") if answer is None else ("told", answer)
        return (outcome, [(word, question)])

    def said(self):
        return tuple([row[0] for row in self._rows])

    def record(self):
        return tuple([(line, outcome, tuple([sheet_showing(word, question) for word, question in questions]))
                      for line, outcome, questions in self._rows])


def _answer(word, question):
    """Answer a question by a search; None for a cost where nothing fits."""
    if word == "fits":
        return fits(question[0], question[1])
    if word == "cost":
        return distance(question[0], question[1])
    if word == "empty":
        return is_empty(question)
    if word == "single":
        return two_typings(question) is None
    if word == "plain":
        return plain_or_exchange(question)[0] == "plain"
    if word == "within":
        return is_within(question[0], question[1]) is None
    return isinstance(verdict(question[0], question[1], question[2]), Leads)


def run_lines(lines):
    desk = Desk()
    return tuple([desk.say(line) for line in lines])
