"""Fillings counted, in all and by the answers of one name."""

from askfolds.forms import question_of
from askfolds.kinds import answers
from askfolds.terms import names_in
from askfolds.views import holds


def how_many(form, sentence):
    """Tell the COUNT: how many FILLINGS there are against which the SENTENCE holds."""
    return how_many_behind(form, (), sentence)


def how_many_behind(questions, pairs, sentence):
    """Tell how many ways there are to fill the QUESTIONS behind these pairs so that the SENTENCE holds."""
    ways = ways_to_fill(questions, pairs, names_in(sentence))
    return sum(number for kept, number in ways.items() if holds(kept, sentence))


def by_answers(form, sentence, name):
    """Tell how many of these FILLINGS lack the NAME, and how many have it with each of its ANSWERS."""
    kind = question_of(form, name)[1]
    hidden = 0
    counts = {answer: 0 for answer in answers(kind)}
    for pairs, number in ways_to_fill(form, (), names_in(sentence) + (name,)).items():
        given = dict(pairs)
        if not holds(pairs, sentence):
            continue
        if name in given:
            counts[given[name]] += number
        else:
            hidden += number
    return hidden, tuple(counts.items())


def ways_to_fill(questions, pairs, kept):
    """Tell how many ways there are to fill the QUESTIONS behind these pairs, for each pairs of the names kept."""
    ways = {pairs: 1}
    for place, question in enumerate(questions):
        # A name that nobody looks at any more need not part the ways: so they stay few.
        needed = looked_at(questions[place + 1:]) + list(kept)
        ways = further_ways(ways, question, needed)
    return ways


def looked_at(questions):
    """Tell the names at which the QUESTIONS' wishes look."""
    return [name for question in questions for name in names_in(question[2])]


def further_ways(ways, question, needed):
    """Tell the ways behind one QUESTION more, by the pairs of the names needed."""
    found = {}
    for pairs, number in ways.items():
        for longer in pairs_behind(pairs, question):
            key = tuple(pair for pair in longer if pair[0] in needed)
            found[key] = found.get(key, 0) + number
    return found


def pairs_behind(pairs, question):
    """Tell the pairs with each ANSWER of the QUESTION more, as they are where it doesn't SHOW."""
    name, kind, wish = question
    if not holds(pairs, wish):
        return [pairs]
    return [pairs + ((name, answer),) for answer in answers(kind)]
