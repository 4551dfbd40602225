"""What is reached: by a filling with fewest answers, or by none."""

from askfolds.boxes import parts, whole
from askfolds.casechecker import is_right, never_claim
from askfolds.cases import claim_cases
from askfolds.corners import first_store
from askfolds.errors import NoFilling
from askfolds.extremes import least
from askfolds.listing import row_of
from askfolds.showing import view
from askfolds.splitting import unsure_split


def answers_term(form):
    """Tell the ANSWERS TERM of the FORM, which comes to how many pairs there are."""
    return 0, tuple(("where", ("given", question[0]), 1) for question in form)


def reach(form, sentence):
    """Tell a REACH PAPER of the FORM and the SENTENCE."""
    try:
        number, filling, cases = least(form, sentence, answers_term(form))
    except NoFilling:
        return "never", claim_cases(form, (), never_claim(sentence))[1]
    return "least", first_filling(form, sentence, number), cases


def first_filling(form, sentence, number):
    """Tell the FILLING of the least ROW, of those with the SENTENCE that have so many pairs; none has fewer."""
    term = answers_term(form)
    waiting = [whole(form, ())]
    found = []
    while waiting:
        box = waiting.pop()
        if is_right(form, box, (sentence, term, number + 1)):
            continue
        row = unsure_split(form, box, sentence, term)
        if row:
            waiting.extend(parts(form, box, row))
        else:
            # All FILLINGS of this BOX have the same names: so the least ANSWER of each makes the least ROW.
            found.append(view(form, first_store(form, box)))
    return min(found, key=lambda filling: row_of(form, filling))
