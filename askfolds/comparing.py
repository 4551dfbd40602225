"""Whether two forms with a term each are alike: by cases, or by a store that parts them."""

from askfolds.alikechecker import can_compare, settled_alike, turned_box
from askfolds.boxes import free_places, parts, whole
from askfolds.errors import NoOrder
from askfolds.rows import put_instead
from askfolds.showing import sorted_store, view
from askfolds.splitting import unsettled_split, wishes_of
from askfolds.surely import facts_in
from askfolds.views import value


def alike(one, term, other, another):
    """Tell ("alike", ALIKE CASES), or ("parted", a WHOLE STORE on which the TERMS come to unlike numbers)."""
    if not can_compare(one, other):
        raise NoOrder("kinds")
    waiting = [whole(one, ())]
    rows = []
    while waiting:
        box = waiting.pop()
        row = settling_split(one, box, term) or settling_split(other, turned_box(one, other, box), another)
        if row:
            rows.append(row)
            waiting.extend(parts(one, box, row)[::-1])
        elif settled_alike(one, term, other, another, box):
            rows.append(("leaf",))
        else:
            return "parted", parting_store(one, term, other, another, box)
    return "alike", tuple(rows)


def settling_split(form, box, term):
    """Tell a SPLIT of the BOX that helps to settle the TERM, () where it is SETTLED."""
    return unsettled_split(wishes_of(form), facts_in(form, box), term)


def parting_store(one, term, other, another, box):
    """Tell a WHOLE STORE of the BOX on which the TERMS, SETTLED there and told unlike, come to unlike numbers."""
    # Each is a sum of one number for each name: where two differ they do so in the corner, or one name off it.
    near = stores_near_corner(one, box)
    return [store for store in near if is_parting(one, term, other, another, store)][0]


def is_parting(one, term, other, another, store):
    """Tell whether on this WHOLE STORE the TERMS come to unlike numbers."""
    return value(view(one, store), term) != value(view(other, sorted_store(other, store)), another)


def stores_near_corner(form, box):
    """Tell the WHOLE STORE of the first ANSWERS, then those with another ANSWER of one name."""
    # The first thing in a RANGE is always an ANSWER: from, the least one, or all that is within.
    corner = tuple((question[0], spread[0]) for question, spread in zip(form, box))
    found = [corner]
    for place, question in enumerate(form):
        for answer in other_answers(question[1], box[place]):
            found.append(put_instead(corner, place, (question[0], answer)))
    return found


def other_answers(kind, spread):
    """Tell as many other ANSWERS in the RANGE as tell what the name brings."""
    if kind[0] == "number":
        return [spread[1]]
    if kind[0] == "one":
        return list(spread[1:])
    return [tuple(sorted(spread[0] + (place,))) for place in free_places(kind, spread)]
