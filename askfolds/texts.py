"""All that is written as words with single blanks between."""


def shown_answer(answer):
    """Write an ANSWER."""
    if not isinstance(answer, tuple):
        return str(answer)
    if not answer:
        return "/"
    return "".join(f"/{number}" for number in answer)


def shown_spot(spot):
    """Write a SPOT."""
    if not isinstance(spot, tuple):
        return spot
    name, place = spot
    return f"{name}.{place}"


def shown_sentence(sentence):
    """Write a SENTENCE, or a FOLD SENTENCE."""
    return " ".join(sentence_words(sentence))


def shown_term(term):
    """Write a TERM, or a FOLD TERM."""
    return " ".join(term_words(term))


def shown_pairs(pairs):
    """Write PAIRS."""
    return " ".join(pairs_words(pairs))


def shown_change(change):
    """Write a FOLD CHANGE."""
    return " ".join(change_words(change))


def shown_form(form):
    """Write a FORM or a FOLD, a text for each ITEM."""
    return [" ".join(item_words(item)) for item in form]


def shown_fold_store(store):
    """Write a FOLD STORE: a text for its outer pairs, and one for each BLOCK."""
    outer, blocks = store
    return [shown_pairs(outer)] + [" ".join(pieces_words(pieces)) for pieces in blocks]


def shown_cases(cases):
    """Write CASES, a text for each row."""
    return [" ".join([str(thing) for thing in row]) for row in cases]


def strung(rows):
    """Put rows of words into one."""
    found = []
    for row in rows:
        found.extend(row)
    return found


def kind_words(kind):
    """Tell the words of a KIND."""
    return [str(thing) for thing in kind]


def sentence_words(sentence):
    """Tell the words of a SENTENCE."""
    word = sentence[0]
    if word == "given":
        return [word, sentence[1]]
    if word in ("is", "has"):
        return [word, sentence[1], str(sentence[2])]
    if word == "least":
        return [word] + term_words(sentence[1]) + [str(sentence[2])]
    if word == "not":
        return [word] + sentence_words(sentence[1])
    return [word, str(len(sentence[1]))] + strung([sentence_words(inner) for inner in sentence[1]])


def term_words(term):
    """Tell the words of a TERM."""
    constant, parts = term
    return ["sum", str(constant), str(len(parts))] + strung([part_words(part) for part in parts])


def part_words(part):
    """Tell the words of a PART."""
    word, about, weight = part
    if word == "times":
        return [word, about, str(weight)]
    if word == "of":
        return [word, about, str(len(weight))] + [str(number) for number in weight]
    if word == "where":
        return [word] + sentence_words(about) + [str(weight)]
    return [word, about] + term_words(weight)


def question_words(question):
    """Tell the words of a QUESTION."""
    name, kind, wish = question
    return [name] + kind_words(kind) + sentence_words(wish)


def item_words(item):
    """Tell the words of an ITEM."""
    if len(item) == 3:
        return ["ask"] + question_words(item)
    name, most, wish, body = item
    start = ["block", name, str(most)] + sentence_words(wish) + [str(len(body))]
    return start + strung([question_words(question) for question in body])


def pairs_words(pairs):
    """Tell the words of PAIRS."""
    if not pairs:
        return ["-"]
    return [f"{name}={shown_answer(answer)}" for name, answer in pairs]


def pieces_words(pieces):
    """Tell the words of a BLOCK's PIECES."""
    return [str(len(pieces))] + strung([[";"] + pairs_words(piece) for piece in pieces])


def change_words(change):
    """Tell the words of a FOLD CHANGE."""
    word = change[0]
    if word == "put":
        return [word, change[1] or "-", str(change[2])] + item_words(change[3])
    if word == "take":
        return [word, change[1]]
    if word == "kind":
        return [word, change[1]] + kind_words(change[2])
    if word == "wish":
        return [word, change[1]] + sentence_words(change[2])
    return [word, change[1], str(change[2])]
