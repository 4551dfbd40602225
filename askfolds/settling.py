"""Terms that are settled in a box: a constant, and what each name brings."""

from askfolds.boxes import free_places
from askfolds.surely import facts_in, part_bounds, part_state
from askfolds.views import weight_at


def settled(form, box, term):
    """Tell (constant, rows) of a TERM that is SETTLED in the BOX, else None."""
    facts = facts_in(form, box)
    constant = term[0]
    brought = {}
    for part in term[1]:
        state = part_state(facts, part)
        if state == "maybe" and part_bounds(facts, part) != (0, 0):
            return None
        if state != "yes":
            continue
        if part[0] == "where":
            constant += part[2]
        else:
            kind, spread, sure = facts[part[1]]
            constant += first_weight(kind, spread, part[2])
            brought[part[1]] = added(brought.get(part[1]), further_weights(kind, spread, part[2]))
    return constant, moving_rows(brought)


def first_weight(kind, spread, weight):
    """Tell what a PART brings by the first ANSWER of the RANGE."""
    if kind[0] == "number":
        return weight * spread[0]
    if kind[0] == "one":
        return weight_at(weight, spread[0])
    return sum(weight_at(weight, place) for place in spread[0])


def further_weights(kind, spread, weight):
    """Tell what a PART brings beside that, a list of numbers."""
    if kind[0] == "number":
        return [weight] if spread[0] < spread[1] else []
    if kind[0] == "one":
        return [weight_at(weight, place) - weight_at(weight, spread[0]) for place in spread]
    return [weight_at(weight, place) for place in free_places(kind, spread)]


def added(before, numbers):
    """Tell the numbers, added to those before, None where there are none yet."""
    if before is None:
        return numbers
    return [one + other for one, other in zip(before, numbers)]


def moving_rows(brought):
    """Tell the names that bring anything but 0, rising, each with its numbers."""
    return tuple((name, tuple(brought[name])) for name in sorted(brought) if moves(brought[name]))


def moves(numbers):
    """Tell whether one of the numbers is not 0."""
    return any(number != 0 for number in numbers)
