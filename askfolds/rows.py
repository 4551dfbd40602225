"""Tuples with one thing put in, taken out, moved, or put in another one's stead."""


def put_in(row, place, thing):
    """Tell the row with the thing at this place, those from it on one place later."""
    return row[:place] + (thing,) + row[place:]


def taken_out(row, place):
    """Tell the row without the thing at this place."""
    return row[:place] + row[place + 1:]


def moved_to(row, place, newer):
    """Tell the row in which the thing at this place has the newer place."""
    return put_in(taken_out(row, place), newer, row[place])


def put_instead(row, place, thing):
    """Tell the row with another thing at this place."""
    return row[:place] + (thing,) + row[place + 1:]
