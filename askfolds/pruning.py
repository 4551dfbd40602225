"""Names that no filling has, or each one, and forms without a name."""

from askfolds.casechecker import never_claim
from askfolds.cases import claim_cases
from askfolds.forms import names, place_of
from askfolds.rows import taken_out


def never_shown(form):
    """Tell the names that no FILLING has, pairs (name, cases)."""
    return names_by_cases(form, [("given", name) for name in names(form)])


def always_shown(form):
    """Tell the names that each FILLING has, pairs (name, cases)."""
    return names_by_cases(form, [("not", ("given", name)) for name in names(form)])


def names_by_cases(form, sentences):
    """Tell the names whose SENTENCE, one for each name in order, never holds, with CASES for that."""
    found = []
    for name, sentence in zip(names(form), sentences):
        word, thing = claim_cases(form, (), never_claim(sentence))
        if word == "cases":
            found.append((name, thing))
    return tuple(found)


def without(form, thing):
    """Tell the FORM without this name."""
    others = taken_out(form, place_of(form, thing))
    return tuple((name, kind, sentence_without(wish, thing)) for name, kind, wish in others)


def pruned(form):
    """Tell the FORM without all names that no FILLING has."""
    newer = form
    for name, cases in never_shown(form):
        newer = without(newer, name)
    return newer


def sentence_without(sentence, name):
    """Tell the SENTENCE as it is where the name is never given."""
    word, about = sentence[0], sentence[1]
    if word == "least":
        return word, term_without(about, name), sentence[2]
    if word == "not":
        return word, sentence_without(about, name)
    if word in ("all", "any"):
        return word, tuple(sentence_without(inner, name) for inner in about)
    return ("any", ()) if about == name else sentence


def term_without(term, name):
    """Tell the TERM as it is where the name is never given."""
    constant, parts = term
    return constant, tuple(part_without(part, name) for part in parts if part[0] == "where" or part[1] != name)


def part_without(part, name):
    """Tell a PART that stays as it is where the name is never given."""
    word, about, weight = part
    return (word, sentence_without(about, name), weight) if word == "where" else part
