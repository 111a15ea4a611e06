"""Houses: documents, schemas, turnings and links, changed by calls, in which all fits and leads at each moment."""

from turnsfit.deeds import is_call, questions_anew
from turnsfit.errors import NoName, Refused
from turnsfit.judged import Breaks, verdict
from turnsfit.refusals import bar
from turnsfit.rooms import Rooms
from turnsfit.turnings import made_document


class House:
    """Judges what is in its rooms behind each call, as far as it is not as it was."""

    def __init__(self):
        self._rooms = Rooms()
        self._why = None

    def do(self, call):
        self._why = None
        if not is_call(call):
            return "call"
        if call[0] in ("undo", "redo"):
            return self._rooms.go_back(call[0])
        word, things = self._rooms.behind(call)
        if word is not None:
            return word
        self._why = _first_fault(self._rooms.there, things)
        if self._why is not None:
            return self._why[0]
        if things == self._rooms.there:
            return "nothing"
        self._rooms.take(call, things)
        return "done"

    def why_now(self):
        return self._why

    def names_now(self, sort):
        return self._rooms.names_of_sort(sort)

    def thing_now(self, name):
        if not isinstance(name, str) or name not in self._rooms.there:
            raise NoName(name)
        return self._rooms.there[name]

    def made_now(self, link, document):
        first = self.thing_now(link)
        second = self.thing_now(document)
        if first[0] != "link" or second[0] != "document" or first[1][1] != second[1][0]:
            raise Refused("schema")
        return made_document(self.thing_now(first[1][0])[1], second[1][1])

    def calls(self):
        return self._rooms.all_calls()

    def depth(self):
        return self._rooms.depths()

    def twin(self):
        other = House()
        other.take_over(self._rooms.copied(), self._why)
        return other

    def take_over(self, rooms, why):
        """Go on from where another house is."""
        self._rooms = rooms
        self._why = why

    def rooms_now(self):
        """Tell what is there, with what was done and taken back, for others that go on alone."""
        return self._rooms.copied()


def _first_fault(before, after):
    """Tell why what is there behind a call is not right, None if it is: documents come ahead of links."""
    documents, links = questions_anew(before, after)
    for name, (schema, node) in documents:
        found = bar(schema, node)
        if found is not None:
            return ("bars", name) + found
    for name, (turning, schema, other) in links:
        found = verdict(turning, schema, other)
        if isinstance(found, Breaks):
            return ("breaks", name, found.node)
    return None
