"""The checker of cases: papers by boxes that a claim holds from known answers."""

from askfolds.boxes import parts, whole
from askfolds.errors import NoPaper
from askfolds.kinds import is_name, is_number
from askfolds.surely import bounds_by, facts_in, word_by


def lets_cases(form, known, claim, thing):
    """Tell True where the thing is CASES for the CLAIM from the known answers."""
    return lets_rows(form, whole(form, known), lambda box: is_right(form, box, claim), thing)


def lets_rows(form, start, right, thing):
    """Tell True where the thing is rows that split the BOX start into leaves, of each of which right tells True."""
    if not isinstance(thing, tuple):
        raise NoPaper("shape", -1)
    waiting = [start]
    for at, row in enumerate(thing):
        if not is_case_row(row):
            raise NoPaper("row", at)
        if not waiting:
            raise NoPaper("more", at)
        box = waiting.pop()
        if row[0] != "leaf":
            split = parts(form, box, row)
            if not split:
                raise NoPaper("box", at)
            # The last one is taken next, so the first PART has to wait behind the others.
            waiting.extend(split[::-1])
        elif not right(box):
            raise NoPaper("leaf", at)
    if waiting:
        raise NoPaper("few", len(thing))
    return True


def is_case_row(thing):
    """Tell whether the thing is a row of CASES."""
    if not isinstance(thing, tuple) or not 1 <= len(thing) <= 3:
        return False
    if len(thing) == 1:
        return thing[0] == "leaf"
    if not is_name(thing[1]):
        return False
    if len(thing) == 2:
        return thing[0] == "each"
    return thing[0] in ("cut", "with") and is_number(thing[2])


def never_claim(sentence):
    """Tell the CLAIM that the SENTENCE holds for none."""
    return sentence, (0, ()), 1


def is_right(form, box, claim):
    """Tell whether in the BOX the SENTENCE's word is no, or the TERM's low reaches the CLAIM's number."""
    sentence, term, number = claim
    facts = facts_in(form, box)
    return word_by(facts, sentence) == "no" or bounds_by(facts, term)[0] >= number
