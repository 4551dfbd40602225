"""Folds: forms with blocks whose bodies come again in pieces, and their stores."""

from askfolds.forms import are_pairs, is_question, kinds_of
from askfolds.kinds import LETTERS, is_number
from askfolds.terms import sentence_fits, term_fits


def is_fold(thing):
    """Tell whether the thing is a FOLD."""
    if not isinstance(thing, tuple):
        return False
    ahead = {}
    blocks = {}
    found = []
    for item in thing:
        if not is_item(ahead, blocks, item):
            return False
        found.extend(item_names(item))
        put_ahead(ahead, blocks, item)
    return len(found) == len(set(found)) and all(is_fold_name(name) for name in found)


def put_ahead(ahead, blocks, item):
    """Put into both dicts what those behind the ITEM may speak of: KINDS by names, and BLOCKS as terms.py has them."""
    ahead[item[0]] = item_kind(item)
    if is_block(item):
        body = dict(kinds_of(item[3]))
        blocks[item[0]] = (body, {**ahead, **body})


def ahead_of_end(fold):
    """Tell what an ITEM behind all others may speak of, both dicts."""
    ahead = {}
    blocks = {}
    for item in fold:
        put_ahead(ahead, blocks, item)
    return ahead, blocks


def is_fold_sentence(fold, thing):
    """Tell whether the thing is a FOLD SENTENCE OF the FOLD."""
    ahead, blocks = ahead_of_end(fold)
    return sentence_fits(ahead, blocks, thing)


def is_fold_term(fold, thing):
    """Tell whether the thing is a FOLD TERM OF the FOLD."""
    ahead, blocks = ahead_of_end(fold)
    return term_fits(ahead, ahead, blocks, thing)


def is_block(item):
    """Tell whether the ITEM is a BLOCK; else it is a QUESTION."""
    return len(item) == 4


def is_item(ahead, blocks, thing):
    """Tell whether the thing is an ITEM, whatever its names' signs, behind what is ahead."""
    if not isinstance(thing, tuple) or len(thing) != 4:
        return is_question(ahead, blocks, thing)
    name, most, wish, body = thing
    if not isinstance(name, str) or not is_number(most) or most < 1:
        return False
    return sentence_fits(ahead, blocks, wish) and is_body({**ahead, name: item_kind(thing)}, body)


def is_body(ahead, thing):
    """Tell whether the thing is a tuple of QUESTIONS behind what is ahead of it and its BLOCK's name."""
    if not isinstance(thing, tuple):
        return False
    seen = dict(ahead)
    for question in thing:
        if not is_question(seen, {}, question):
            return False
        seen[question[0]] = question[1]
    return True


def item_kind(item):
    """Tell the KIND of the ITEM's name."""
    return ("number", 0, item[1]) if is_block(item) else item[1]


def item_names(item):
    """Tell the names in the ITEM, its own and those of its body."""
    if not is_block(item):
        return [item[0]]
    return [item[0]] + [question[0] for question in item[3]]


def is_fold_name(text):
    """Tell whether the text has one to seven small letters and nothing else."""
    return 1 <= len(text) <= 7 and all(sign in LETTERS for sign in text)


def is_fold_store(fold, thing):
    """Tell whether the thing is a FOLD STORE of the FOLD."""
    if not isinstance(thing, tuple) or len(thing) != 2:
        return False
    outer, entries = thing
    questions = [item for item in fold if not is_block(item)]
    if not are_pairs(questions, outer):
        return False
    blocks = [item for item in fold if is_block(item)]
    if not isinstance(entries, tuple) or len(entries) != len(blocks):
        return False
    return all(are_pieces(block, pieces) for block, pieces in zip(blocks, entries))


def are_pieces(block, thing):
    """Tell whether the thing is a tuple of PIECES of the BLOCK, no more than it may have."""
    name, most, wish, body = block
    if not isinstance(thing, tuple) or len(thing) > most:
        return False
    return all(are_pairs(body, piece) for piece in thing)


def with_pieces(fold, store):
    """Tell each ITEM of the FOLD with its PIECES, () of a QUESTION."""
    found = []
    at = 0
    for item in fold:
        if is_block(item):
            found.append((item, store[1][at]))
            at += 1
        else:
            found.append((item, ()))
    return found


def spots(fold, store):
    """Tell the SPOTS that there are, ITEM by ITEM, behind a BLOCK's name those of its PIECES."""
    found = []
    for item, pieces in with_pieces(fold, store):
        found.append(item[0])
        if is_block(item):
            found.extend([(question[0], place) for place in range(len(pieces)) for question in item[3]])
    return tuple(found)


def spot_answers(fold, store):
    """Tell the answer of each SPOT that has one, a dict."""
    found = dict(store[0])
    for item, pieces in with_pieces(fold, store):
        if is_block(item):
            found[item[0]] = len(pieces)
        for place, piece in enumerate(pieces):
            for name, answer in piece:
                found[(name, place)] = answer
    return found
