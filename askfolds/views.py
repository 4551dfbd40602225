"""What holds, what a term comes to, and what shows, against pairs (name, answer).

Given is a dict from names to answers. Of a block that shows it has beside its name, by the key (name, "pieces"),
a list with what is given in each of its pieces.
"""


def holds(pairs, sentence):
    """Tell whether the SENTENCE holds against the pairs."""
    return holds_with(dict(pairs), sentence)


def value(pairs, term):
    """Tell what the TERM comes to against the pairs."""
    return value_with(dict(pairs), term)


def holds_with(given, sentence):
    """Tell whether the SENTENCE holds by what is given."""
    word = sentence[0]
    if word == "given":
        return sentence[1] in given
    if word == "is":
        return sentence[1] in given and given[sentence[1]] == sentence[2]
    if word == "has":
        return sentence[1] in given and sentence[2] in given[sentence[1]]
    if word == "least":
        return value_with(given, sentence[1]) >= sentence[2]
    if word == "not":
        return not holds_with(given, sentence[1])
    if word == "all":
        return all(holds_with(given, inner) for inner in sentence[1])
    return any(holds_with(given, inner) for inner in sentence[1])


def value_with(given, term):
    """Tell what the TERM comes to by what is given."""
    constant, parts = term
    return constant + sum(part_value(given, part) for part in parts)


def part_value(given, part):
    """Tell what one PART brings."""
    word, about, weight = part
    if word == "where":
        return weight if holds_with(given, about) else 0
    if word == "pieces":
        return sum(value_with(piece, weight) for piece in given.get((about, "pieces"), ()))
    if about not in given:
        return 0
    if word == "times":
        return weight * given[about]
    return weight_of(weight, given[about])


def gone_through(questions, given, pairs):
    """Go through the QUESTIONS in order: tell the NAMES that SHOW, and what is given behind them."""
    stored = dict(pairs)
    found = []
    seen = dict(given)
    for name, kind, wish in questions:
        if holds_with(seen, wish):
            found.append(name)
            if name in stored:
                seen[name] = stored[name]
    return found, seen


def weight_of(weights, answer):
    """Tell the weight of an ANSWER of the sort one or some."""
    # The pairs come without KINDS: only the sort some has tuples as its ANSWERS.
    if isinstance(answer, tuple):
        return sum(weight_at(weights, place) for place in answer)
    return weight_at(weights, answer)


def weight_at(weights, place):
    """Tell the weight at a place, 0 where the weights have no such place."""
    return weights[place] if place < len(weights) else 0
