"""Papers that fewer asks aren't enough to be sure of a sentence."""

from askfolds.asking import knowns_behind, may_ask, sure_claim
from askfolds.cases import claim_cases
from askfolds.worsts import fewest_asks


def needs_paper(form, sentence):
    """Tell a NEEDS PAPER whose first n is the least WORST of all ASK TREES."""
    asks = fewest_asks(form, sentence)
    waiting = [()]
    rows = {}
    while waiting:
        known = waiting.pop()
        number = asks[known][0]
        if number == 0 or known in rows:
            continue
        rows[known] = (known, number, store_with(form, known, sentence, "yes"), store_with(form, known, sentence, "no"))
        if number >= 2:
            waiting.extend([hardest(asks, knowns_behind(form, known, name)) for name in may_ask(form, known)])
    return tuple(rows.values())


def hardest(asks, knowns):
    """Tell the KNOWN that takes most asks."""
    return max(knowns, key=lambda known: asks[known][0])


def store_with(form, known, sentence, word):
    """Tell a WHOLE STORE that has the KNOWN, and of which the SENTENCE holds by yes, doesn't hold by no."""
    # It is against the claim that the other word is sure.
    other = "no" if word == "yes" else "yes"
    return claim_cases(form, known, sure_claim(sentence, other))[1]
