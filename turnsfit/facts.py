"""Facts that sheets show, and all that follows from them."""

from turnsfit.costs import mend_cost
from turnsfit.following import Following
from turnsfit.nodes import size_of


def facts_of(sheet):
    word, question, paper = sheet
    if word in ("fits", "unfit"):
        return (("fits", question, word == "fits"),)
    if word == "costs":
        return (("cost", question, mend_cost(question[0], question[1], paper[0])),)
    if word == "answer":
        return (("answer", question, True), ("fits", (question[0].schema, question[1]), True))
    if word == "smallest":
        return (("size", question, size_of(paper[0])), ("alive", question, True))
    if word == "least":
        return (("states", question, len(question.texts)),)
    if word in ("within", "beyond"):
        return _of_two_schemas(word, question, paper)
    if word == "leads":
        return (("leads", question, True),)
    if word == "breaks":
        return (("leads", question, False), ("fits", (question[1], paper[0]), True))
    if word == "growing":
        return (("growing", question, True),)
    return _of_schema(word, question, paper)


def _of_two_schemas(word, question, paper):
    if word == "within":
        return (("within", question, True),)
    one, other = question
    return (("within", question, False), ("fits", (one, paper[0]), True), ("fits", (other, paper[0]), False))


def _of_schema(word, schema, paper):
    """Tell the facts of a sheet about one schema."""
    if word in ("alive", "dead"):
        return tuple([("alive", (schema, kind), word == "alive") for kind in paper])
    if word == "single":
        return (("single", schema, True),)
    if word == "twice":
        return (("single", schema, False), ("fits", (schema, paper[0]), True))
    if word == "some":
        return (("empty", schema, False), ("fits", (schema, paper[0]), True))
    if word == "none":
        return (("empty", schema, True),)
    if word == "plain":
        return (("plain", schema, True), ("within", (schema, paper[0]), True), ("within", (paper[0], schema), True))
    return (("plain", schema, False),)


def all_facts(facts):
    return tuple(Following(facts).facts)


def told_by(facts, word, question):
    for other_word, other_question, answer in Following(facts).facts:
        if other_word == word and other_question == question:
            return answer
    return None
