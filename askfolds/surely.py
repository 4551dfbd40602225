"""What is surely so in a box, by words yes, no, maybe, and by lows and highs.

Facts are a dict from each name to a tuple (kind, range, state).
"""

from askfolds.boxes import free_places
from askfolds.views import weight_at

CONTRARY_WORDS = {"yes": "no", "no": "yes", "maybe": "maybe"}


def states(form, box):
    """Tell the state of each QUESTION in the BOX."""
    facts = facts_in(form, box)
    return tuple(facts[question[0]][2] for question in form)


def surely(form, box, sentence):
    """Tell the word of the SENTENCE in the BOX."""
    return word_by(facts_in(form, box), sentence)


def low_high(form, box, term):
    """Tell the low and the high of the TERM in the BOX."""
    return bounds_by(facts_in(form, box), term)


def facts_in(form, box):
    """Tell the facts of all names in the BOX."""
    facts = {}
    for question, spread in zip(form, box):
        name, kind, wish = question
        facts[name] = (kind, spread, word_by(facts, wish))
    return facts


def word_by(facts, sentence):
    """Tell the word of the SENTENCE by the facts."""
    word = sentence[0]
    if word == "given":
        return facts[sentence[1]][2]
    if word == "is":
        return is_word(facts[sentence[1]], sentence[2])
    if word == "has":
        return has_word(facts[sentence[1]], sentence[2])
    if word == "least":
        return least_word(bounds_by(facts, sentence[1]), sentence[2])
    if word == "not":
        return CONTRARY_WORDS[word_by(facts, sentence[1])]
    inner = [word_by(facts, one) for one in sentence[1]]
    if word == "all":
        return joined_word(inner, "no", "yes")
    return joined_word(inner, "yes", "no")


def is_word(fact, answer):
    """Tell the word of ("is", name, answer) by the fact of the name."""
    kind, spread, state = fact
    if state == "no" or answer not in spread:
        return "no"
    if state == "yes" and len(spread) == 1:
        return "yes"
    return "maybe"


def has_word(fact, place):
    """Tell the word of ("has", name, place) by the fact of the name."""
    kind, (within, without), state = fact
    if state == "no" or place in without or place >= kind[1]:
        return "no"
    if state == "yes" and place in within:
        return "yes"
    return "maybe"


def least_word(bounds, number):
    """Tell whether what lies between the bounds is the number or more."""
    low, high = bounds
    if low >= number:
        return "yes"
    if high < number:
        return "no"
    return "maybe"


def joined_word(inner, deciding, other):
    """Tell the deciding word where one is it, the other where each one is the other, else maybe."""
    if deciding in inner:
        return deciding
    return "maybe" if "maybe" in inner else other


def bounds_by(facts, term):
    """Tell (low, high) of the TERM by the facts."""
    low = high = term[0]
    for part in term[1]:
        least, most = part_bounds(facts, part)
        low += least
        high += most
    return low, high


def part_state(facts, part):
    """Tell the word of a PART's SENTENCE, or the state of its name."""
    if part[0] == "where":
        return word_by(facts, part[1])
    return facts[part[1]][2]


def part_bounds(facts, part):
    """Tell (low, high) of one PART by the facts."""
    state = part_state(facts, part)
    if state == "no":
        return 0, 0
    low, high = sure_bounds(facts, part)
    if state == "yes":
        return low, high
    return min(low, 0), max(high, 0)


def sure_bounds(facts, part):
    """Tell (low, high) of one PART as they are where its state is yes."""
    word, about, weight = part
    if word == "where":
        return weight, weight
    kind, spread, state = facts[about]
    if word == "times":
        ends = [weight * spread[0], weight * spread[1]]
        return min(ends), max(ends)
    if kind[0] == "one":
        weights = [weight_at(weight, place) for place in spread]
        return min(weights), max(weights)
    sure = sum(weight_at(weight, place) for place in spread[0])
    free = [weight_at(weight, place) for place in free_places(kind, spread)]
    return sure + sum(min(one, 0) for one in free), sure + sum(max(one, 0) for one in free)
