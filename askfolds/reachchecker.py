"""The checker of reach papers: a filling with fewest answers, or that there is none."""

from askfolds.casechecker import lets_cases, never_claim
from askfolds.errors import NoPaper
from askfolds.reaching import answers_term
from askfolds.showing import is_filling
from askfolds.views import holds


def lets_reach(form, sentence, thing):
    """Tell "least" or "never", the word of a REACH PAPER of the FORM and the SENTENCE."""
    if is_never_paper(thing):
        lets_cases(form, (), never_claim(sentence), thing[1])
        return "never"
    if not is_least_paper(thing):
        raise NoPaper("shape", -1)
    word, filling, cases = thing
    if not is_filling(form, filling):
        raise NoPaper("filling", -1)
    if not holds(filling, sentence):
        raise NoPaper("holds", -1)
    lets_cases(form, (), (sentence, answers_term(form), len(filling)), cases)
    return "least"


def is_never_paper(thing):
    """Tell whether the thing is a tuple of two with "never" first."""
    return isinstance(thing, tuple) and len(thing) == 2 and thing[0] == "never"


def is_least_paper(thing):
    """Tell whether the thing is a tuple of three with "least" first."""
    return isinstance(thing, tuple) and len(thing) == 3 and thing[0] == "least"
