"""The checker of leasts: papers that a term is a number at least, and comes to it."""

from askfolds.casechecker import lets_cases
from askfolds.errors import NoPaper
from askfolds.kinds import is_number
from askfolds.showing import is_filling
from askfolds.views import holds, value


def lets_least(form, sentence, term, thing):
    """Tell the number, where the thing shows it to be the least to which the TERM comes with the SENTENCE."""
    if not isinstance(thing, tuple) or len(thing) != 3 or not is_number(thing[0]):
        raise NoPaper("shape", -1)
    number, filling, cases = thing
    if not is_filling(form, filling):
        raise NoPaper("filling", -1)
    if not holds(filling, sentence):
        raise NoPaper("holds", -1)
    if value(filling, term) != number:
        raise NoPaper("number", -1)
    lets_cases(form, (), (sentence, term, number), cases)
    return number
