"""What holds, and what a term comes to, against pairs (name, answer)."""


def holds(pairs, sentence):
    """Tell whether the SENTENCE holds against the pairs."""
    return holds_with(dict(pairs), sentence)


def value(pairs, term):
    """Tell what the TERM comes to against the pairs."""
    return value_with(dict(pairs), term)


def holds_with(given, sentence):
    """Tell whether the SENTENCE holds, given a dict from names to answers."""
    word = sentence[0]
    if word == "given":
        return sentence[1] in given
    if word == "is":
        return sentence[1] in given and given[sentence[1]] == sentence[2]
    if word == "has":
        return sentence[1] in given and sentence[2] in given[sentence[1]]
    if word == "least":
        return value_with(given, sentence[1]) >= sentence[2]
    if word == "not":
        return not holds_with(given, sentence[1])
    if word == "all":
        return all(holds_with(given, inner) for inner in sentence[1])
    return any(holds_with(given, inner) for inner in sentence[1])


def value_with(given, term):
    """Tell what the TERM comes to, given a dict from names to answers."""
    constant, parts = term
    return constant + sum(part_value(given, part) for part in parts)


def part_value(given, part):
    """Tell what one PART brings."""
    word, about, weight = part
    if word == "where":
        return weight if holds_with(given, about) else 0
    if about not in given:
        return 0
    if word == "times":
        return weight * given[about]
    return weight_of(weight, given[about])


def weight_of(weights, answer):
    """Tell the weight of an ANSWER of the sort one or some."""
    # The pairs come without KINDS: only the sort some has tuples as its ANSWERS.
    if isinstance(answer, tuple):
        return sum(weight_at(weights, place) for place in answer)
    return weight_at(weights, answer)


def weight_at(weights, place):
    """Tell the weight at a place, 0 where the weights have no such place."""
    return weights[place] if place < len(weights) else 0
