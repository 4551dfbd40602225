"""All that askfolds.texts writes, read again, by kind alone."""

from askfolds.errors import NoText
from askfolds.words import Words

# A SENTENCE stands within so many others at most.
DEEPEST = 15
SENTENCE_WORDS = ("given", "is", "has", "least", "not", "all", "any")
PART_WORDS = ("times", "of", "where")
CHANGE_WORDS = ("put", "take", "move", "kind", "wish", "most")


def read_answer(text):
    """Read an ANSWER."""
    words = Words(0, text)
    return words.ended(words.take_answer())


def read_spot(text):
    """Read a SPOT."""
    words = Words(0, text)
    return words.ended(words.take_spot())


def read_sentence(text):
    """Read a SENTENCE, or a FOLD SENTENCE."""
    words = Words(0, text)
    return words.ended(take_sentence(words, 0, True))


def read_term(text):
    """Read a TERM, or a FOLD TERM."""
    words = Words(0, text)
    return words.ended(take_term(words, 0, True))


def read_pairs(text):
    """Read PAIRS."""
    return read_pairs_row(0, text)


def read_change(text):
    """Read a FOLD CHANGE."""
    words = Words(0, text)
    return words.ended(take_change(words))


def read_form(lines):
    """Read a FORM or a FOLD, a tuple of ITEMS."""
    return tuple([read_item_row(row, text) for row, text in enumerate(lines)])


def read_fold_store(lines):
    """Read a FOLD STORE."""
    if not lines:
        raise NoText(0, 0)
    outer = read_pairs_row(0, lines[0])
    return outer, tuple([read_pieces_row(row, text) for row, text in enumerate(lines) if row > 0])


def read_cases(lines):
    """Read CASES."""
    return tuple([read_case_row(row, text) for row, text in enumerate(lines)])


def read_pairs_row(row, text):
    """Read the PAIRS of this row."""
    words = Words(row, text)
    return words.ended(take_pairs(words))


def read_item_row(row, text):
    """Read the ITEM of this row."""
    words = Words(row, text)
    return words.ended(take_item(words, ("ask", "block")))


def read_pieces_row(row, text):
    """Read the PIECES of a BLOCK of this row."""
    words = Words(row, text)
    many = words.take_number_from(0)
    return words.ended(tuple([take_piece(words) for turn in range(many)]))


def read_case_row(row, text):
    """Read the row of CASES of this row."""
    words = Words(row, text)
    return words.ended(take_case(words))


def take_kind(words):
    """Take a KIND."""
    word = words.take_word(("one", "number", "some"))
    if word != "number":
        return word, words.take_number_from(1)
    low = words.take_number()
    return word, low, words.take_number_from(low)


def take_sentence(words, depth, pieces):
    """Take a SENTENCE within so many others, with PIECES PARTS where pieces is True."""
    word = words.take_word(SENTENCE_WORDS if depth <= DEEPEST else ())
    if word == "given":
        return word, words.take_name()
    if word in ("is", "has"):
        return word, words.take_name(), words.take_number_from(0)
    if word == "least":
        return word, take_term(words, depth + 1, pieces), words.take_number()
    if word == "not":
        return word, take_sentence(words, depth + 1, pieces)
    many = words.take_number_from(0)
    return word, tuple([take_sentence(words, depth + 1, pieces) for turn in range(many)])


def take_term(words, depth, pieces):
    """Take a TERM within so many SENTENCES, with PIECES PARTS where pieces is True."""
    words.take_word(("sum",))
    constant = words.take_number()
    many = words.take_number_from(0)
    return constant, tuple([take_part(words, depth, pieces) for turn in range(many)])


def take_part(words, depth, pieces):
    """Take a PART of such a TERM."""
    word = words.take_word(PART_WORDS + ("pieces",) if pieces else PART_WORDS)
    if word == "times":
        return word, words.take_name(), words.take_number()
    if word == "of":
        return word, words.take_name(), take_weights(words)
    if word == "where":
        return word, take_sentence(words, depth, pieces), words.take_number()
    return word, words.take_name(), take_term(words, depth, False)


def take_weights(words):
    """Take how many weights there are, and these."""
    many = words.take_number_from(0)
    return tuple([words.take_number() for turn in range(many)])


def take_question(words):
    """Take a QUESTION."""
    return words.take_name(), take_kind(words), take_sentence(words, 0, True)


def take_item(words, allowed):
    """Take an ITEM that begins with one of the allowed words."""
    if words.take_word(allowed) == "ask":
        return take_question(words)
    return words.take_name(), words.take_number_from(1), take_sentence(words, 0, True), take_body(words)


def take_body(words):
    """Take how many QUESTIONS a body has, and these."""
    many = words.take_number_from(0)
    return tuple([take_question(words) for turn in range(many)])


def take_pairs(words):
    """Take PAIRS, up to the next ; or the end."""
    if words.ahead() == "-":
        words.take_word(("-",))
        return ()
    pairs = [words.take_pair()]
    while not words.is_done() and words.ahead() != ";":
        pairs.append(words.take_pair())
    return tuple(pairs)


def take_piece(words):
    """Take the word ; and the PAIRS of a PIECE."""
    words.take_word((";",))
    return take_pairs(words)


def take_case(words):
    """Take a row of CASES."""
    word = words.take_word(("cut", "each", "with", "leaf"))
    if word == "leaf":
        return (word,)
    if word == "each":
        return word, words.take_name()
    return word, words.take_name(), words.take_number()


def take_change(words):
    """Take a FOLD CHANGE."""
    word = words.take_word(CHANGE_WORDS)
    if word == "put":
        return take_put(words)
    name = words.take_name()
    if word == "take":
        return word, name
    if word == "kind":
        return word, name, take_kind(words)
    if word == "wish":
        return word, name, take_sentence(words, 0, True)
    return word, name, words.take_number()


def take_put(words):
    """Take what stands behind put: no BLOCK goes into the body of another one."""
    if words.ahead() == "-":
        words.take_word(("-",))
        return "put", "", words.take_number(), take_item(words, ("ask", "block"))
    return "put", words.take_name(), words.take_number(), take_item(words, ("ask",))
