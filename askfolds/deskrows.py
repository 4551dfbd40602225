"""The rows that a desk is told, read as tuples of their first word and what stands behind it."""

from askfolds.errors import NoRow, NoText
from askfolds.folds import is_fold_sentence, is_fold_term
from askfolds.readings import take_change, take_sentence, take_term
from askfolds.words import Words

DEED_WORDS = ("answer", "away", "in", "out", "shift", "change", "back")
LOOK_WORDS = ("shown", "open", "aside", "fold", "store", "unfolded", "value", "holds", "count")


def read_row(fold, row):
    """Read a row of a desk that keeps the FOLD."""
    words = Words(0, row)
    try:
        word = words.take_word(DEED_WORDS + LOOK_WORDS)
        thing = words.ended((word,) + take_things(words, word))
    except NoText:
        raise NoRow(row) from None
    if not is_row_of(fold, thing):
        raise NoRow(row)
    return thing


def take_things(words, word):
    """Take what stands behind the first word, a tuple."""
    if word == "answer":
        return words.take_spot(), words.take_answer()
    if word == "away":
        return (words.take_spot(),)
    if word in ("in", "out"):
        return words.take_name(), words.take_number()
    if word == "shift":
        return words.take_name(), words.take_number(), words.take_number()
    if word == "change":
        return (take_change(words),)
    if word == "value":
        return (take_term(words, 0, True),)
    if word in ("holds", "count"):
        return (take_sentence(words, 0, True),)
    return ()


def is_row_of(fold, thing):
    """Tell whether a TERM or a SENTENCE in the row is one OF the FOLD."""
    if thing[0] == "value":
        return is_fold_term(fold, thing[1])
    if thing[0] in ("holds", "count"):
        return is_fold_sentence(fold, thing[1])
    return True
