"""What follows from facts, one from another, until nothing more does."""

from turnsfit.turnings import made_document

# Questions about one thing are this thing, all others are tuples of things.
OF_ONE_THING = ("single", "empty", "plain", "states", "growing")


class Following:
    """Facts and all that follows from them, none twice.

    Things that facts are about have numbers, equal ones the same: so a fact
    is told by its word and some numbers.
    """

    def __init__(self, facts):
        self.facts = []
        self.things = []
        self.known = {}
        self.queue = []
        self.by_place = {}
        self.documents = {}
        self.made = {}
        for word, question, answer in facts:
            numbers = self._numbers(word, question)
            if word in ("fits", "cost"):
                self.documents[numbers[1]] = True
            self._add(word, numbers, answer)
        at = 0
        while at < len(self.queue):
            self._go_on(self.queue[at])
            at += 1

    def _numbers(self, word, question):
        if word in OF_ONE_THING:
            return (self._number_of(question),)
        return tuple([self._number_of(thing) for thing in question])

    def _number_of(self, thing):
        for number, other in enumerate(self.things):
            if other == thing:
                return number
        self.things.append(thing)
        return len(self.things) - 1

    def _add(self, word, numbers, answer):
        if (word, numbers) in self.known:
            return
        self.known[word, numbers] = answer
        self.queue.append((word, numbers, answer))
        things = tuple([self.things[number] for number in numbers])
        self.facts.append((word, things[0] if word in OF_ONE_THING else things, answer))
        for place, number in enumerate(numbers):
            self.by_place.setdefault((word, place, number), []).append((numbers, answer))

    def _about(self, word, place, number, answer):
        """List the numbers of all facts with a word, a thing at a place, and an answer."""
        return [numbers for numbers, other in self.by_place.get((word, place, number), []) if other == answer]

    def _go_on(self, fact):
        """Add what follows from a fact and those known."""
        word, numbers, answer = fact
        if word == "fits" and answer:
            self._from_fit(numbers[0], numbers[1])
        elif word == "fits":
            self._from_unfit(numbers[0], numbers[1])
        elif word == "cost":
            self._add("fits", numbers, answer == 0)
        elif word == "empty":
            self._from_empty(numbers[0], answer)
        elif word == "within" and answer:
            self._from_within(numbers[0], numbers[1])
        elif word == "leads" and answer:
            self._from_leads(numbers[0], numbers[1], numbers[2])

    def _from_fit(self, schema, document):
        self._add("empty", (schema,), False)
        self._add("cost", (schema, document), 0)
        for other, _ in self._about("fits", 1, document, False):
            self._add("within", (schema, other), False)
        for _, other in self._about("within", 0, schema, True):
            self._add("fits", (other, document), True)
        for turning, _, other in self._about("leads", 1, schema, True):
            self._make(turning, document, other)

    def _from_unfit(self, schema, document):
        for other, _ in self._about("fits", 1, document, True):
            self._add("within", (other, schema), False)
        for other, _ in self._about("within", 1, schema, True):
            self._add("fits", (other, document), False)

    def _from_empty(self, schema, answer):
        if answer:
            for other, _ in self._about("within", 1, schema, True):
                self._add("empty", (other,), True)
        else:
            for _, other in self._about("within", 0, schema, True):
                self._add("empty", (other,), False)

    def _from_within(self, one, other):
        for _, document in self._about("fits", 0, one, True):
            self._add("fits", (other, document), True)
        for _, document in self._about("fits", 0, other, False):
            self._add("fits", (one, document), False)
        if self.known.get(("empty", (other,))) is True:
            self._add("empty", (one,), True)
        if self.known.get(("empty", (one,))) is False:
            self._add("empty", (other,), False)
        for _, third in self._about("within", 0, other, True):
            self._add("within", (one, third), True)
        for third, _ in self._about("within", 1, one, True):
            self._add("within", (third, other), True)
        for turning, _, third in self._about("leads", 1, other, True):
            self._add("leads", (turning, one, third), True)
        for turning, third, _ in self._about("leads", 2, one, True):
            self._add("leads", (turning, third, other), True)

    def _from_leads(self, turning, one, other):
        for third, _ in self._about("within", 1, one, True):
            self._add("leads", (turning, third, other), True)
        for _, third in self._about("within", 0, other, True):
            self._add("leads", (turning, one, third), True)
        for _, document in self._about("fits", 0, one, True):
            self._make(turning, document, other)

    def _make(self, turning, document, schema):
        """Add that what is made of a document fits, if a given fact told of the document."""
        if document not in self.documents:
            return
        key = (turning, document)
        if key not in self.made:
            self.made[key] = self._number_of(made_document(self.things[turning], self.things[document]))
        self._add("fits", (schema, self.made[key]), True)
