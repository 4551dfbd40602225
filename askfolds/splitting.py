"""Which split of a box tells more of a sentence whose word in it is maybe, and of a term that isn't settled in it.

Wishes are a dict from each name to its wish, facts are those of the box.
"""

from askfolds.boxes import free_places
from askfolds.surely import bounds_by, facts_in, part_bounds, part_state, word_by
from askfolds.views import part_value, weight_at


def wishes_of(form):
    """Tell the wish of each name."""
    return {question[0]: question[2] for question in form}


def unsure_split(form, box, sentence, term):
    """Tell a SPLIT of the BOX where it isn't sure whether the SENTENCE holds, or what counts in the TERM, else ()."""
    facts = facts_in(form, box)
    if word_by(facts, sentence) == "maybe":
        return split_for(wishes_of(form), facts, sentence)
    return unsettled_split(wishes_of(form), facts, term)


def unsettled_split(wishes, facts, term):
    """Tell a SPLIT that helps to settle the TERM, () where it is SETTLED."""
    for part in loose_parts(facts, term):
        if part_state(facts, part) == "maybe":
            return split_for_state(wishes, facts, part)
    return ()


def unlike_split(facts, term, lowest):
    """Tell a SPLIT for a SETTLED TERM whose low is not reached, not even by lowest, the answers that bring least."""
    # PARTS of one name cannot all be low at once: the low of the TERM rises only as that name's RANGE gets narrower.
    unlike = [part for part in term[1] if part_value(lowest, part) > part_bounds(facts, part)[0]]
    if unlike[0][0] == "of":
        return split_for_weights(facts, unlike[0])
    return cut_in_half(facts, unlike[:1])


def split_for(wishes, facts, sentence):
    """Tell a SPLIT that fits, by what the SENTENCE's word maybe hangs on."""
    word, about = sentence[0], sentence[1]
    if word == "not":
        return split_for(wishes, facts, about)
    if word in ("all", "any"):
        unsure = [inner for inner in about if word_by(facts, inner) == "maybe"]
        return split_for(wishes, facts, unsure[0])
    if word == "least":
        return split_for_bar(wishes, facts, about, sentence[2])
    if facts[about][2] == "maybe":
        return split_for(wishes, facts, wishes[about])
    if word == "is":
        return "each", about
    return "with", about, sentence[2]


def split_for_bar(wishes, facts, term, number):
    """Tell a SPLIT for a TERM of which it isn't sure whether it is the number or more."""
    loose = loose_parts(facts, term)
    for part in loose:
        if part_state(facts, part) == "maybe":
            return split_for_state(wishes, facts, part)
    for part in loose:
        if part[0] == "of":
            return split_for_weights(facts, part)
    # A bar is cut where it lies once nothing else is loose; else every other number would need a cut of its own.
    if len(loose) == 1:
        return cut_at_bar(facts, term, loose[0], number)
    return cut_in_half(facts, loose)


def loose_parts(facts, term):
    """Tell the PARTS whose low is not their high."""
    return [part for part in term[1] if is_loose(facts, part)]


def is_loose(facts, part):
    """Tell whether the PART's low is not its high."""
    low, high = part_bounds(facts, part)
    return low < high


def split_for_state(wishes, facts, part):
    """Tell a SPLIT for a PART whose word, or whose name's state, is maybe."""
    if part[0] == "where":
        return split_for(wishes, facts, part[1])
    return split_for(wishes, facts, wishes[part[1]])


def split_for_weights(facts, part):
    """Tell a SPLIT for a loose PART of a name of the sort one or some that SHOWS."""
    word, name, weights = part
    kind, spread, state = facts[name]
    if kind[0] == "one":
        return "each", name
    heavy = [place for place in free_places(kind, spread) if weight_at(weights, place) != 0]
    return "with", name, heavy[0]


def cut_at_bar(facts, term, part, number):
    """Tell the cut of the one loose name, below which the TERM is on one side of the number, above on the other."""
    word, name, weight = part
    rest = bounds_by(facts, term)[0] - part_bounds(facts, part)[0]
    bar = number - rest
    if weight > 0:
        return "cut", name, -(-bar // weight)
    return "cut", name, bar // weight + 1


def cut_in_half(facts, loose):
    """Tell the cut in half of the narrowest name."""
    name = min([part[1] for part in loose], key=lambda one: width(facts, one))
    start, end = facts[name][1]
    return "cut", name, (start + end) // 2 + 1


def width(facts, name):
    """Tell how far the RANGE of a name of the sort number goes."""
    start, end = facts[name][1]
    return end - start
