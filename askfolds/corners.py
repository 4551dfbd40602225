"""Stores in a box: where a settled term is least, and where each answer is."""

from askfolds.boxes import free_places
from askfolds.settling import settled


def lowest_store(form, box, term):
    """Tell a WHOLE STORE of the BOX on which the TERM, SETTLED there, is least."""
    # A settled TERM is a sum of one number for each name: so each name may be looked at by itself.
    brought = dict(settled(form, box, term)[1])
    found = []
    for question, spread in zip(form, box):
        name, kind, wish = question
        found.append((name, lowest_answer(kind, spread, brought.get(name, ()))))
    return tuple(found)


def lowest_answer(kind, spread, numbers):
    """Tell an ANSWER of the RANGE that brings least by these numbers, () where none brings anything."""
    if not numbers:
        return spread[0]
    if kind[0] == "number":
        return spread[0] if numbers[0] > 0 else spread[1]
    if kind[0] == "one":
        return spread[numbers.index(min(numbers))]
    light = [place for place, number in zip(free_places(kind, spread), numbers) if number < 0]
    return tuple(sorted(spread[0] + tuple(light)))


def first_store(form, box):
    """Tell the WHOLE STORE of the BOX with the least ANSWER of each name."""
    found = []
    for question, spread in zip(form, box):
        name, kind, wish = question
        found.append((name, first_answer(kind, spread)))
    return tuple(found)


def first_answer(kind, spread):
    """Tell the least ANSWER of the RANGE."""
    if kind[0] != "some" or spread[0] == ():
        return spread[0]
    # Of tuples that have the last place of within, those with each free place ahead of it are less.
    within = spread[0]
    return tuple(sorted(within + tuple(place for place in free_places(kind, spread) if place < within[-1])))
