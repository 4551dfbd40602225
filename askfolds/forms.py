"""Forms: questions in an order, each with a wish about those ahead of it."""

from askfolds.errors import NoName
from askfolds.kinds import is_answer, is_kind, is_name
from askfolds.terms import sentence_fits


def is_form(thing):
    """Tell whether the thing is a FORM."""
    if not isinstance(thing, tuple):
        return False
    ahead = {}
    for question in thing:
        if not is_question(ahead, {}, question) or question[0] in ahead:
            return False
        ahead[question[0]] = question[1]
    return True


def is_question(ahead, blocks, thing):
    """Tell whether the thing is a QUESTION whose wish speaks of what is ahead, a dict from names to KINDS."""
    if not isinstance(thing, tuple) or len(thing) != 3:
        return False
    name, kind, wish = thing
    return is_name(name) and is_kind(kind) and sentence_fits(ahead, blocks, wish)


def are_pairs(questions, thing):
    """Tell whether the thing is a tuple of pairs (name, answer) of the QUESTIONS, in their order."""
    if not isinstance(thing, tuple):
        return False
    place = 0
    for pair in thing:
        if not isinstance(pair, tuple) or len(pair) != 2:
            return False
        while place < len(questions) and questions[place][0] != pair[0]:
            place += 1
        if place == len(questions) or not is_answer(questions[place][1], pair[1]):
            return False
        place += 1
    return True


def kinds_of(form):
    """Tell the KINDS of the FORM."""
    return tuple((question[0], question[1]) for question in form)


def names(form):
    """Tell the NAMES of the FORM."""
    return tuple(question[0] for question in form)


def question_of(form, name):
    """Tell the QUESTION of this NAME."""
    return form[place_of(form, name)]


def place_of(form, name):
    """Tell the place of the QUESTION of this NAME."""
    for place, question in enumerate(form):
        if question[0] == name:
            return place
    raise NoName(name)
