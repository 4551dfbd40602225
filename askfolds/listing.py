"""Fillings numbered: the row of one, the one of a number, and the number of one.

Of two fillings what shows parts first by an answer: so they rise question by question, answer by answer.
"""

from askfolds.counting import how_many, how_many_behind, pairs_behind
from askfolds.errors import NoFilling
from askfolds.forms import place_of
from askfolds.views import holds


def row_of(form, filling):
    """Tell the ROW of the FILLING."""
    return tuple((place_of(form, name), answer) for name, answer in filling)


def filling_at(form, sentence, k):
    """Tell the FILLING of number k, of those against which the SENTENCE holds."""
    if not 0 <= k < how_many(form, sentence):
        raise NoFilling("number")
    left = k
    pairs = ()
    for place, question in enumerate(form):
        pairs, left = way_down(form[place + 1:], pairs_behind(pairs, question), sentence, left)
    return pairs


def way_down(questions, further, sentence, k):
    """Tell behind which of the pairs further the FILLING of number k is, and its number there."""
    left = k
    for pairs in further[:-1]:
        many = how_many_behind(questions, pairs, sentence)
        if left < many:
            return pairs, left
        left -= many
    # All others are passed: it is behind the last one, which needs no count.
    return further[-1], left


def number_of(form, sentence, filling):
    """Tell the number of the FILLING, of those against which the SENTENCE holds."""
    if not holds(filling, sentence):
        raise NoFilling("other")
    number = 0
    pairs = ()
    for place, question in enumerate(form):
        further = pairs_behind(pairs, question)
        at = further.index(filling[:len(further[0])])
        number += sum(how_many_behind(form[place + 1:], longer, sentence) for longer in further[:at])
        pairs = further[at]
    return number
