"""What is in a house, what was done and what was taken back: kept without judging anything."""

from turnsfit.deeds import deeds_of, things_behind, word_against


class Rooms:
    """Keeps a dict of what is there, which is replaced and never changed."""

    def __init__(self):
        self.there = {}
        self.past = []
        self.later = []

    def behind(self, call):
        """Tell the word with which deeds are refused, None if they can be done, and what is there behind the call."""
        things = self.there
        deeds = deeds_of(call)
        for deed in deeds:
            word = word_against(things, deed)
            if word is not None:
                return (word, self.there)
            things = things_behind(things, deed)
        return (None, things)

    def take(self, call, things):
        """Do a call, behind which some things are there."""
        self.past.append((call, self.there))
        self.later = []
        self.there = things

    def go_back(self, word):
        """Undo or redo a call: the word that is told."""
        gone = self.past if word == "undo" else self.later
        ahead = self.later if word == "undo" else self.past
        if not gone:
            return "nothing"
        call, things = gone.pop()
        ahead.append((call, self.there))
        self.there = things
        return "done"

    def names_of_sort(self, sort):
        return tuple(sorted([name for name in self.there if self.there[name][0] == sort]))

    def all_calls(self):
        """List the calls that were done and are not undone."""
        return tuple([call for call, _ in self.past])

    def depths(self):
        return (len(self.past), len(self.later))

    def copied(self):
        other = Rooms()
        other.there = self.there
        other.past = list(self.past)
        other.later = list(self.later)
        return other
