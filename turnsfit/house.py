"""Houses: documents, schemas, turnings and links, changed by calls, in which all fits and leads at each moment."""

from turnsfit.deeds import deeds_of, is_as_it_was, is_call, things_behind, word_against
from turnsfit.errors import NoName, Refused
from turnsfit.judged import Breaks, verdict
from turnsfit.refusals import bar
from turnsfit.turnings import made_document


class House:
    """Keeps a dict of what is there, which is replaced by each call and never changed."""

    def __init__(self):
        self._there = {}
        self._past = []
        self._later = []
        self._why = None

    def do(self, call):
        self._why = None
        if not is_call(call):
            return "call"
        if call[0] == "undo":
            return self._go_back(self._past, self._later)
        if call[0] == "redo":
            return self._go_back(self._later, self._past)
        things = self._there
        deeds = deeds_of(call)
        for deed in deeds:
            word = word_against(things, deed)
            if word is not None:
                return word
            things = things_behind(things, deed)
        self._why = _first_fault(self._there, things)
        if self._why is not None:
            return self._why[0]
        if things == self._there:
            return "nothing"
        self._past.append((call, self._there))
        self._later = []
        self._there = things
        return "done"

    def _go_back(self, gone, ahead):
        """Go to the last of what is gone, from where one can come back."""
        if not gone:
            return "nothing"
        call, things = gone.pop()
        ahead.append((call, self._there))
        self._there = things
        return "done"

    def why_now(self):
        return self._why

    def names_now(self, sort):
        return tuple(sorted([name for name in self._there if self._there[name][0] == sort]))

    def thing_now(self, name):
        if not isinstance(name, str) or name not in self._there:
            raise NoName(name)
        return self._there[name]

    def made_now(self, link, document):
        first = self.thing_now(link)
        second = self.thing_now(document)
        if first[0] != "link" or second[0] != "document" or first[1][1] != second[1][0]:
            raise Refused("schema")
        return made_document(self._there[first[1][0]][1], second[1][1])

    def calls(self):
        return tuple([call for call, _ in self._past])

    def depth(self):
        return (len(self._past), len(self._later))

    def twin(self):
        other = House()
        other.take_over(self._there, self._past, self._later, self._why)
        return other

    def take_over(self, things, past, later, why):
        """Go on from where another house is."""
        self._there = things
        self._past = list(past)
        self._later = list(later)
        self._why = why


def _first_fault(before, after):
    """Tell why what is there behind a call is not right, None if it is: documents come ahead of links."""
    # What was there already is right, if nothing that it depends on has changed.
    names = [name for name in sorted(after) if not is_as_it_was(before, after, name)]
    for name in names:
        sort, thing = after[name]
        if sort == "document":
            found = bar(after[thing[0]][1], thing[1])
            if found is not None:
                return ("bars", name) + found
    for name in names:
        sort, thing = after[name]
        if sort == "link":
            found = verdict(after[thing[0]][1], after[thing[1]][1], after[thing[2]][1])
            if isinstance(found, Breaks):
                return ("breaks", name, found.node)
    return None
