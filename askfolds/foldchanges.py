"""Folds changed, and the store of a fold led into another one.

A home is where a question stands: "" for the fold itself, else the name of the block in whose body it is.
"""

from askfolds.errors import NoChange
from askfolds.folds import is_block, is_fold, with_pieces
from askfolds.forms import names, place_of
from askfolds.kinds import is_answer, is_number
from askfolds.rows import moved_to, put_in, put_instead, taken_out


def fold_changed(fold, thing):
    """Tell the FOLD, changed by the thing."""
    if not is_fold_change(thing):
        raise NoChange("shape")
    if not names_its_like(fold, thing):
        raise NoChange("name")
    home = thing[1] if thing[0] == "put" else home_of(fold, thing[1])
    newer = with_row(fold, home, changed_row(row_at(fold, home), thing))
    if not is_fold(newer):
        raise NoChange("fold")
    return newer


def is_fold_change(thing):
    """Tell whether the thing has the shape of a FOLD CHANGE."""
    if not isinstance(thing, tuple) or len(thing) not in (2, 3, 4) or not isinstance(thing[1], str):
        return False
    word = thing[0]
    if len(thing) == 2:
        return word == "take"
    if len(thing) == 4:
        return word == "put" and is_number(thing[2])
    return word in ("kind", "wish") or word in ("move", "most") and is_number(thing[2])


def names_its_like(fold, change):
    """Tell whether the FOLD has the name of the change, of an ITEM or a QUESTION such as the change is for."""
    word, name = change[0], change[1]
    blocks = names([item for item in fold if is_block(item)])
    if word == "put":
        return name == "" or name in blocks
    if word == "most":
        return name in blocks
    if word == "kind" and name in blocks:
        return False
    return any(name in names(row_at(fold, home)) for home in ("",) + blocks)


def home_of(fold, name):
    """Tell the home of a name that the FOLD has."""
    for item in fold:
        if is_block(item) and name in names(item[3]):
            return item[0]
    return ""


def row_at(fold, home):
    """Tell the ITEMS of the FOLD, or the QUESTIONS of a BLOCK's body."""
    return fold if home == "" else fold[place_of(fold, home)][3]


def with_row(fold, home, row):
    """Tell the FOLD with this row at the home."""
    if home == "":
        return row
    place = place_of(fold, home)
    name, most, wish, body = fold[place]
    return put_instead(fold, place, (name, most, wish, row))


def changed_row(row, change):
    """Tell the row of ITEMS or QUESTIONS, changed."""
    if change[0] == "put":
        if not 0 <= change[2] <= len(row):
            raise NoChange("place")
        return put_in(row, change[2], change[3])
    place = place_of(row, change[1])
    if change[0] == "take":
        return taken_out(row, place)
    if change[0] == "move":
        if not 0 <= change[2] < len(row):
            raise NoChange("place")
        return moved_to(row, place, change[2])
    return put_instead(row, place, changed_item(row[place], change[0], change[2]))


def changed_item(item, word, thing):
    """Tell the ITEM or QUESTION with another KIND or most, or another wish."""
    # A QUESTION's KIND and a BLOCK's most have the same place, and so have their wishes.
    return put_instead(item, 2 if word == "wish" else 1, thing)


def fold_led(elder, newer, store):
    """Tell (FOLD STORE, lost) of a FOLD STORE of the elder FOLD, LED into the newer one."""
    kinds = kinds_by_home(newer)
    mosts = {item[0]: item[1] for item in newer if is_block(item)}
    kept = {}
    lost = []
    for home, place, name, answer in stored_answers(elder, store):
        spot = name if home == "" else (name, place)
        if (home, name) not in kinds:
            lost.append((spot, answer, "gone"))
        elif home != "" and place >= mosts[home]:
            lost.append((spot, answer, "piece"))
        elif not is_answer(kinds[(home, name)], answer):
            lost.append((spot, answer, "kind"))
        else:
            kept[(home, place, name)] = answer
    many = {item[0]: len(pieces) for item, pieces in with_pieces(elder, store) if is_block(item)}
    return store_of(newer, kept, many), tuple(lost)


def kinds_by_home(fold):
    """Tell the KIND of each QUESTION, by its home and name."""
    found = {}
    for item in fold:
        if is_block(item):
            for question in item[3]:
                found[(item[0], question[0])] = question[1]
        else:
            found[("", item[0])] = item[1]
    return found


def stored_answers(fold, store):
    """Tell the answers of QUESTIONS as (home, place, name, answer), rising as their SPOTS; place 0 outside BLOCKS."""
    outer = dict(store[0])
    found = []
    for item, pieces in with_pieces(fold, store):
        if item[0] in outer:
            found.append(("", 0, item[0], outer[item[0]]))
        for place, piece in enumerate(pieces):
            found.extend([(item[0], place, name, answer) for name, answer in piece])
    return found


def store_of(fold, kept, many):
    """Tell the FOLD STORE of the answers kept, with as many PIECES as there were and the FOLD lets."""
    outer = pairs_kept([item for item in fold if not is_block(item)], kept, "", 0)
    blocks = []
    for item in fold:
        if is_block(item):
            count = min(item[1], many.get(item[0], 0))
            blocks.append(tuple(pairs_kept(item[3], kept, item[0], place) for place in range(count)))
    return outer, tuple(blocks)


def pairs_kept(questions, kept, home, place):
    """Tell the pairs of the QUESTIONS that have an answer kept."""
    return tuple((name, kept[(home, place, name)]) for name in names(questions) if (home, place, name) in kept)
