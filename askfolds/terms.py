"""Sentences and terms: whether a thing is one, and the names in it.

Where blocks are told they are a dict from each block that a pieces part may name to a pair of dicts:
the kinds of its body, and the kinds of all that its body sees in the end.
"""

from askfolds.kinds import is_number


def is_sentence(kinds, thing):
    """Tell whether the thing is a SENTENCE OF the KINDS."""
    return sentence_fits(dict(kinds), {}, thing)


def is_term(kinds, thing):
    """Tell whether the thing is a TERM OF the KINDS."""
    return term_fits(dict(kinds), dict(kinds), {}, thing)


def sentence_fits(kinds, blocks, thing):
    """Tell whether the thing is a SENTENCE of names of the kinds, with pieces of the blocks."""
    if not isinstance(thing, tuple):
        return False
    if len(thing) == 2:
        return short_fits(kinds, blocks, thing)
    return len(thing) == 3 and long_fits(kinds, blocks, thing)


def short_fits(kinds, blocks, thing):
    """Tell whether a tuple of two is a SENTENCE."""
    word, inner = thing
    if word == "given":
        return sort_of(kinds, inner) != ""
    if word == "not":
        return sentence_fits(kinds, blocks, inner)
    if word not in ("all", "any") or not isinstance(inner, tuple):
        return False
    return all(sentence_fits(kinds, blocks, one) for one in inner)


def long_fits(kinds, blocks, thing):
    """Tell whether a tuple of three is a SENTENCE."""
    word, about, number = thing
    if not is_number(number):
        return False
    if word == "least":
        return term_fits(kinds, kinds, blocks, about)
    if word == "is":
        return sort_of(kinds, about) == "one" and number >= 0
    return word == "has" and sort_of(kinds, about) == "some" and number >= 0


def sort_of(kinds, thing):
    """Tell the sort of the name, "" where the kinds have no such name."""
    if not isinstance(thing, str) or thing not in kinds:
        return ""
    return kinds[thing][0]


def term_fits(straight, kinds, blocks, thing):
    """Tell whether the thing is a TERM: names straight in it are of straight, those in its SENTENCES of the kinds."""
    if not isinstance(thing, tuple) or len(thing) != 2:
        return False
    constant, parts = thing
    if not is_number(constant) or not isinstance(parts, tuple):
        return False
    return all(part_fits(straight, kinds, blocks, part) for part in parts)


def part_fits(straight, kinds, blocks, thing):
    """Tell whether the thing is a PART of such a TERM."""
    if not isinstance(thing, tuple) or len(thing) != 3:
        return False
    word, about, weight = thing
    if word == "times":
        return sort_of(straight, about) == "number" and is_number(weight)
    if word == "of":
        return sort_of(straight, about) in ("one", "some") and are_numbers(weight)
    if word == "where":
        return sentence_fits(kinds, blocks, about) and is_number(weight)
    return word == "pieces" and pieces_fit(blocks, about, weight)


def pieces_fit(blocks, block, term):
    """Tell whether ("pieces", block, term) is a PIECES PART of one of the blocks."""
    if not isinstance(block, str) or block not in blocks:
        return False
    body, seen = blocks[block]
    return term_fits(body, seen, {}, term)


def are_numbers(thing):
    """Tell whether the thing is a tuple of NUMBERS."""
    return isinstance(thing, tuple) and all(is_number(number) for number in thing)


def names_in(sentence):
    """Tell the NAMES in the SENTENCE, rising."""
    return tuple(sorted(set(sentence_names(sentence))))


def names_of(term):
    """Tell the NAMES in the TERM, rising."""
    return tuple(sorted(set(term_names(term))))


def sentence_names(sentence):
    """Tell the NAMES in the SENTENCE as they come."""
    word, about = sentence[0], sentence[1]
    if word == "least":
        return term_names(about)
    if word == "not":
        return sentence_names(about)
    if word in ("all", "any"):
        return [name for inner in about for name in sentence_names(inner)]
    return [about]


def term_names(term):
    """Tell the NAMES in the TERM as they come."""
    return [name for part in term[1] for name in part_names(part)]


def part_names(part):
    """Tell the NAMES in the PART as they come."""
    return sentence_names(part[1]) if part[0] == "where" else [part[1]]
