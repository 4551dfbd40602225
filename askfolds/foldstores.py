"""Fold stores with one answer given or put away, by its spot."""

from askfolds.foldchanges import home_of, row_at
from askfolds.folds import is_block, spots
from askfolds.forms import question_of
from askfolds.kinds import is_number
from askfolds.pieces import entry_of, with_entry
from askfolds.rows import put_instead
from askfolds.showing import sorted_store


def is_asked_spot(fold, store, thing):
    """Tell whether the thing is a SPOT of a QUESTION that there is."""
    if isinstance(thing, tuple):
        # True is no 1, but Python takes it for one.
        return len(thing) == 2 and is_number(thing[1]) and thing in spots(fold, store)
    return any(item[0] == thing for item in fold if not is_block(item))


def name_at(spot):
    """Tell the name of the SPOT."""
    return spot[0] if isinstance(spot, tuple) else spot


def questions_at(fold, spot):
    """Tell the row of ITEMS, or of QUESTIONS of a body, in which the SPOT's QUESTION stands."""
    return row_at(fold, home_of(fold, name_at(spot)))


def kind_at(fold, spot):
    """Tell the KIND of the SPOT's QUESTION."""
    return question_of(questions_at(fold, spot), name_at(spot))[1]


def with_answer(fold, store, spot, answer):
    """Tell the FOLD STORE in which the SPOT has this answer."""
    pairs = pairs_beside(fold, store, spot) + ((name_at(spot), answer),)
    return with_pairs_at(fold, store, spot, sorted_store(questions_at(fold, spot), pairs))


def without_answer(fold, store, spot):
    """Tell the FOLD STORE in which the SPOT has no answer."""
    return with_pairs_at(fold, store, spot, pairs_beside(fold, store, spot))


def pairs_beside(fold, store, spot):
    """Tell the pairs of the SPOT's PIECE, or of those outside BLOCKS, without the SPOT's own."""
    if isinstance(spot, tuple):
        pairs = store[1][entry_at(fold, spot)][spot[1]]
    else:
        pairs = store[0]
    return tuple(pair for pair in pairs if pair[0] != name_at(spot))


def with_pairs_at(fold, store, spot, pairs):
    """Tell the FOLD STORE with these pairs in the SPOT's PIECE, or outside BLOCKS."""
    if not isinstance(spot, tuple):
        return pairs, store[1]
    at = entry_at(fold, spot)
    return with_entry(store, at, put_instead(store[1][at], spot[1], pairs))


def entry_at(fold, spot):
    """Tell the place among the BLOCKS of the one in whose body the SPOT's QUESTION is."""
    return entry_of(fold, home_of(fold, spot[0]))
