"""The least and the greatest to which a term comes, with a filling and cases."""

from askfolds.boxes import parts, whole
from askfolds.casechecker import is_right
from askfolds.cases import claim_cases
from askfolds.corners import lowest_store
from askfolds.errors import NoFilling
from askfolds.showing import view
from askfolds.splitting import unsure_split
from askfolds.surely import low_high
from askfolds.views import value


def contrary(term):
    """Tell the CONTRARY of the TERM."""
    return 0 - term[0], tuple(contrary_part(part) for part in term[1])


def contrary_part(part):
    """Tell the PART with its w or its weights turned to the contrary."""
    word, about, weight = part
    if word == "of":
        return word, about, tuple(0 - one for one in weight)
    return word, about, 0 - weight


def least(form, sentence, term):
    """Tell (number, filling, cases): the least to which the TERM comes with the SENTENCE."""
    number, filling = lowest(form, sentence, term)
    return number, filling, claim_cases(form, (), (sentence, term, number))[1]


def greatest(form, sentence, term):
    """Tell (number, filling, cases): the greatest to which the TERM comes with the SENTENCE, cases for the CONTRARY."""
    number, filling, cases = least(form, sentence, contrary(term))
    return 0 - number, filling, cases


def lowest(form, sentence, term):
    """Tell the least to which the TERM comes with the SENTENCE, and a FILLING to which it does."""
    waiting = [whole(form, ())]
    # Nothing comes to so much: so the first FILLING that is found is less.
    number = low_high(form, waiting[0], term)[1] + 1
    filling = None
    while waiting:
        box = waiting.pop()
        if is_right(form, box, (sentence, term, number)):
            continue
        row = unsure_split(form, box, sentence, term)
        if row:
            waiting.extend(parts(form, box, row)[::-1])
            continue
        seen = view(form, lowest_store(form, box, term))
        if value(seen, term) < number:
            number, filling = value(seen, term), seen
    if filling is None:
        raise NoFilling("never")
    return number, filling
