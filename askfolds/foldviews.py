"""What a fold shows, and what its sentences and terms come to."""

from askfolds.folds import is_block, spot_answers, spots, with_pieces
from askfolds.views import gone_through, holds_with, value_with


def fold_shown(fold, store):
    """Tell the SPOTS that SHOW, rising."""
    found, given = gone_through_fold(fold, store)
    return tuple(found)


def fold_opened(fold, store):
    """Tell the SPOTS that are OPEN, rising."""
    answered = spot_answers(fold, store)
    return tuple(spot for spot in fold_shown(fold, store) if spot not in answered)


def fold_aside(fold, store):
    """Tell what is ASIDE, pairs (SPOT, answer), rising."""
    answered = spot_answers(fold, store)
    found = fold_shown(fold, store)
    hidden = [spot for spot in spots(fold, store) if spot not in found]
    return tuple((spot, answered[spot]) for spot in hidden if spot in answered)


def fold_holds(fold, store, sentence):
    """Tell whether the FOLD SENTENCE holds against all that one has in the end."""
    found, given = gone_through_fold(fold, store)
    return holds_with(given, sentence)


def fold_value(fold, store, term):
    """Tell what the FOLD TERM comes to against all that one has in the end."""
    found, given = gone_through_fold(fold, store)
    return value_with(given, term)


def gone_through_fold(fold, store):
    """Go ITEM by ITEM: tell the SPOTS that SHOW, and what is given in the end."""
    found = []
    given = {}
    for item, pieces in with_pieces(fold, store):
        if is_block(item):
            more, given = gone_through_block(item, given, pieces)
        else:
            more, given = gone_through([item], given, store[0])
        found.extend(more)
    return found, given


def gone_through_block(block, given, pieces):
    """Go through the BLOCK, each PIECE by itself: tell the SPOTS that SHOW, and what is given behind it."""
    name, most, wish, body = block
    if not holds_with(given, wish):
        return [], given
    seen = {**given, name: len(pieces)}
    found = [name]
    inner = []
    for place, piece in enumerate(pieces):
        shown, own = gone_through(body, seen, piece)
        found.extend([(one, place) for one in shown])
        inner.append(own)
    # No PIECE sees another one: what is given in each is kept beside, for PIECES PARTS alone.
    return found, {**seen, (name, "pieces"): inner}
