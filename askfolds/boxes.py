"""Boxes: one range of answers for each question of a form."""

from askfolds.kinds import is_number, is_rising_below
from askfolds.rows import put_instead


def is_box(form, thing):
    """Tell whether the thing is a BOX of the FORM."""
    if not isinstance(thing, tuple) or len(thing) != len(form):
        return False
    return all(is_spread(question[1], spread) for question, spread in zip(form, thing))


def is_spread(kind, thing):
    """Tell whether the thing is a RANGE of the KIND."""
    if not isinstance(thing, tuple):
        return False
    if kind[0] == "one":
        return len(thing) >= 1 and is_rising_below(kind[1], thing)
    if len(thing) != 2:
        return False
    if kind[0] == "number":
        return are_ends(kind, thing[0], thing[1])
    return are_sides(kind[1], thing[0], thing[1])


def are_ends(kind, start, end):
    """Tell whether numbers from start to end are a RANGE of a number KIND."""
    if not is_number(start) or not is_number(end):
        return False
    return kind[1] <= start <= end <= kind[2]


def are_sides(many, within, without):
    """Tell whether (within, without) is a RANGE of the KIND ("some", many)."""
    if not is_rising_below(many, within) or not is_rising_below(many, without):
        return False
    return all(place not in without for place in within)


def free_places(kind, spread):
    """Tell the places of a KIND of the sort some that are in neither side."""
    within, without = spread
    return tuple(place for place in range(kind[1]) if place not in within and place not in without)


def whole(form, known):
    """Tell the BOX OF the known answers."""
    given = dict(known)
    return tuple([spread_of(question, given) for question in form])


def spread_of(question, given):
    """Tell the RANGE of the one answer given, or of all where none is."""
    name, kind, wish = question
    if name in given:
        return lone_spread(kind, given[name])
    return full_spread(kind)


def full_spread(kind):
    """Tell the RANGE in which all ANSWERS of the KIND lie."""
    if kind[0] == "one":
        return tuple(range(kind[1]))
    if kind[0] == "number":
        return kind[1], kind[2]
    return (), ()


def lone_spread(kind, answer):
    """Tell the RANGE in which this ANSWER alone lies."""
    if kind[0] == "one":
        return (answer,)
    if kind[0] == "number":
        return answer, answer
    return answer, tuple(place for place in range(kind[1]) if place not in answer)


def has(form, box, store):
    """Tell whether the WHOLE STORE lies in the BOX."""
    return all(lies(question[1], spread, pair[1]) for question, spread, pair in zip(form, box, store))


def lies(kind, spread, answer):
    """Tell whether the ANSWER lies in the RANGE."""
    if kind[0] == "one":
        return answer in spread
    if kind[0] == "number":
        return spread[0] <= answer <= spread[1]
    within, without = spread
    return all(place in answer for place in within) and all(place not in answer for place in without)


def parts(form, box, row):
    """Tell the PARTS of the BOX by the SPLIT row, [] where it doesn't fit."""
    for place, question in enumerate(form):
        if question[0] == row[1]:
            return [put_instead(box, place, spread) for spread in split_spreads(question[1], box[place], row)]
    return []


def split_spreads(kind, spread, row):
    """Tell the RANGES into which the SPLIT row takes this one, [] where it doesn't fit."""
    if row[0] == "cut" and kind[0] == "number":
        return cut_spreads(spread, row[2])
    if row[0] == "each" and kind[0] == "one" and len(spread) >= 2:
        return [(answer,) for answer in spread]
    if row[0] == "with" and kind[0] == "some":
        return with_spreads(kind, spread, row[2])
    return []


def cut_spreads(spread, number):
    """Split a RANGE of numbers below and from the number on."""
    start, end = spread
    if not start < number <= end:
        return []
    return [(start, number - 1), (number, end)]


def with_spreads(kind, spread, place):
    """Split a RANGE of the sort some by a free place, first without it."""
    if place not in free_places(kind, spread):
        return []
    within, without = spread
    return [(within, tuple(sorted(without + (place,)))), (tuple(sorted(within + (place,))), without)]
