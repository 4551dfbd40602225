"""Trees of asks by which one is sure of a sentence soonest, at worst."""

from askfolds.asking import is_sure, knowns_behind, sure_claim
from askfolds.cases import claim_cases
from askfolds.worsts import fewest_asks


def ask_tree(form, sentence):
    """Tell an ASK TREE of the least WORST."""
    asks = fewest_asks(form, sentence)
    waiting = [()]
    rows = []
    while waiting:
        known = waiting.pop()
        number, name = asks[known]
        if number == 0:
            rows.append(sure_row(form, known, sentence))
        else:
            rows.append(("ask", name))
            waiting.extend(knowns_behind(form, known, name)[::-1])
    return tuple(rows)


def sure_row(form, known, sentence):
    """Tell the "sure" row for a KNOWN from which the SENTENCE is SURE."""
    word = is_sure(form, known, sentence)
    return "sure", word, claim_cases(form, known, sure_claim(sentence, word))[1]
