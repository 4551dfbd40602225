"""The checker of ask trees: by which asks one is sure of a sentence."""

from askfolds.asking import knowns_behind, may_ask, sure_claim
from askfolds.casechecker import lets_cases
from askfolds.errors import NoPaper
from askfolds.kinds import is_name


def lets_asks(form, sentence, thing):
    """Tell the WORST of an ASK TREE: the greatest number of asks on the way to a "sure" row."""
    if not isinstance(thing, tuple):
        raise NoPaper("shape", -1)
    waiting = [()]
    worst = 0
    for at, row in enumerate(thing):
        if not is_ask_row(row):
            raise NoPaper("row", at)
        if not waiting:
            raise NoPaper("more", at)
        known = waiting.pop()
        if row[0] == "ask":
            if row[1] not in may_ask(form, known):
                raise NoPaper("ask", at)
            # The last one is taken next, so that of the least ANSWER has to wait behind the others.
            waiting.extend(knowns_behind(form, known, row[1])[::-1])
        else:
            look_at_sure(form, known, sentence, at, row)
            worst = max(worst, len(known))
    if waiting:
        raise NoPaper("few", len(thing))
    return worst


def is_ask_row(thing):
    """Tell whether the thing is a row of an ASK TREE."""
    if not isinstance(thing, tuple) or len(thing) not in (2, 3):
        return False
    if len(thing) == 2:
        return thing[0] == "ask" and is_name(thing[1])
    return thing[0] == "sure" and thing[1] in ("yes", "no")


def look_at_sure(form, known, sentence, at, row):
    """Look whether the cases of a "sure" row, which is the one at this place, are let by."""
    word, told, cases = row
    try:
        lets_cases(form, known, sure_claim(sentence, told), cases)
    except NoPaper:
        raise NoPaper("sure", at) from None
