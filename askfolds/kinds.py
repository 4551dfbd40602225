"""Numbers, names, kinds and the answers of kinds."""

LETTERS = "abcdefghijklmnopqrstuvwxyz"
FIGURES = "0123456789"


def is_number(thing):
    """Tell whether the thing is an int that is no truth."""
    return isinstance(thing, int) and not isinstance(thing, bool)


def is_name(thing):
    """Tell whether the thing is a NAME."""
    if not isinstance(thing, str) or not 1 <= len(thing) <= 8:
        return False
    return thing[0] in LETTERS and all(sign in LETTERS + FIGURES for sign in thing)


def is_kind(thing):
    """Tell whether the thing is a KIND, however large."""
    if not isinstance(thing, tuple) or len(thing) not in (2, 3):
        return False
    if not all(is_number(number) for number in thing[1:]):
        return False
    if len(thing) == 2:
        return thing[0] in ("one", "some") and thing[1] >= 1
    return thing[0] == "number" and thing[1] <= thing[2]


def is_answer(kind, thing):
    """Tell whether the thing is an ANSWER of the KIND."""
    if kind[0] == "some":
        return is_rising_below(kind[1], thing)
    if not is_number(thing):
        return False
    if kind[0] == "one":
        return 0 <= thing < kind[1]
    return kind[1] <= thing <= kind[2]


def is_rising_below(many, thing):
    """Tell whether the thing is a rising tuple of NUMBERS from 0 to many - 1."""
    if not isinstance(thing, tuple):
        return False
    last = -1
    for number in thing:
        if not is_number(number) or not last < number < many:
            return False
        last = number
    return True


def size(kind):
    """Tell how many ANSWERS the KIND has."""
    if kind[0] == "one":
        return kind[1]
    if kind[0] == "number":
        return kind[2] - kind[1] + 1
    return 1 << kind[1]


def answers(kind):
    """Tell all ANSWERS of the KIND, rising."""
    if kind[0] == "one":
        return tuple(range(kind[1]))
    if kind[0] == "number":
        return tuple(range(kind[1], kind[2] + 1))
    return tuple(sorted(choices(kind[1])))


def choices(many):
    """Tell all rising tuples of numbers from 0 to many - 1, in no told order."""
    found = [()]
    for number in range(many):
        found = found + [chosen + (number,) for chosen in found]
    return found
