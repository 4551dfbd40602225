"""Pieces of a block that come, go and are moved."""

from askfolds.errors import NoPiece
from askfolds.folds import is_block
from askfolds.kinds import is_number
from askfolds.rows import moved_to, put_in, put_instead, taken_out


def piece_in(fold, store, block, place):
    """Tell the FOLD STORE with a PIECE () more, at this place."""
    at = entry_of(fold, block)
    pieces = store[1][at]
    if len(pieces) >= most_of(fold, block):
        raise NoPiece("most")
    if not is_place(place, len(pieces) + 1):
        raise NoPiece("place")
    return with_entry(store, at, put_in(pieces, place, ()))


def piece_out(fold, store, block, place):
    """Tell the FOLD STORE without the PIECE at this place."""
    at = entry_of(fold, block)
    pieces = store[1][at]
    if not is_place(place, len(pieces)):
        raise NoPiece("place")
    return with_entry(store, at, taken_out(pieces, place))


def piece_moved(fold, store, block, one, other):
    """Tell the FOLD STORE in which the PIECE at the one place has the other."""
    at = entry_of(fold, block)
    pieces = store[1][at]
    if not is_place(one, len(pieces)) or not is_place(other, len(pieces)):
        raise NoPiece("place")
    return with_entry(store, at, moved_to(pieces, one, other))


def entry_of(fold, block):
    """Tell the place of the BLOCK among the BLOCKS."""
    blocks = [item[0] for item in fold if is_block(item)]
    for at, name in enumerate(blocks):
        if name == block:
            return at
    raise NoPiece("block")


def most_of(fold, block):
    """Tell how many PIECES the BLOCK may have."""
    return [item[1] for item in fold if item[0] == block][0]


def is_place(thing, many):
    """Tell whether the thing is a NUMBER from 0 on and below many."""
    return is_number(thing) and 0 <= thing < many


def with_entry(store, at, pieces):
    """Tell the FOLD STORE with these PIECES of the BLOCK at this place among the BLOCKS."""
    outer, entries = store
    return outer, put_instead(entries, at, pieces)
