"""The checker of needs papers: that nobody is sure of a sentence with fewer asks at worst."""

from askfolds.asking import may_ask
from askfolds.errors import NoPaper
from askfolds.kinds import is_number
from askfolds.showing import is_store, view
from askfolds.views import holds


def lets_needs(form, sentence, thing):
    """Tell the first n of a NEEDS PAPER, 0 of ()."""
    if not isinstance(thing, tuple):
        raise NoPaper("shape", -1)
    for at, row in enumerate(thing):
        if not is_needs_row(form, row):
            raise NoPaper("row", at)
    if not thing:
        return 0
    if thing[0][0] != ():
        raise NoPaper("begin", -1)
    numbers = numbers_behind(thing)
    for at, row in enumerate(thing):
        if not is_parted(form, sentence, row):
            raise NoPaper("apart", at)
        if not is_needed(form, numbers, row):
            raise NoPaper("needs", at)
    return thing[0][1]


def is_needs_row(form, thing):
    """Tell whether the thing is a tuple (STORE, NUMBER from 1 on, WHOLE STORE, WHOLE STORE)."""
    if not isinstance(thing, tuple) or len(thing) != 4:
        return False
    known, number, yes, no = thing
    if not is_store(form, known) or not is_number(number) or number < 1:
        return False
    return is_whole(form, yes) and is_whole(form, no)


def is_whole(form, thing):
    """Tell whether the thing is a WHOLE STORE of the FORM."""
    return is_store(form, thing) and len(thing) == len(form)


def numbers_behind(rows):
    """Tell the greatest n of all rows, by their known less one pair and that pair's name."""
    found = {}
    for known, number, yes, no in rows:
        for name, answer in known:
            key = (tuple(pair for pair in known if pair[0] != name), name)
            found[key] = max(number, found.get(key, 0))
    return found


def is_parted(form, sentence, row):
    """Tell whether yes and no have all pairs of known, and the SENTENCE holds of yes and doesn't of no."""
    known, number, yes, no = row
    if not all(pair in yes and pair in no for pair in known):
        return False
    return holds(view(form, yes), sentence) and not holds(view(form, no), sentence)


def is_needed(form, numbers, row):
    """Tell whether, of an n of 2 or more, each name that MAY BE ASKED has a row behind with n - 1 or more."""
    known, number, yes, no = row
    if number == 1:
        return True
    return all(numbers.get((known, name), 0) >= number - 1 for name in may_ask(form, known))
