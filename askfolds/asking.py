"""What may be asked, and what is sure, from known answers."""

from askfolds.boxes import parts, whole
from askfolds.casechecker import never_claim
from askfolds.forms import question_of
from askfolds.kinds import answers
from askfolds.showing import sorted_store
from askfolds.splitting import split_for, wishes_of
from askfolds.surely import facts_in, states, word_by


def may_ask(form, known):
    """Tell the NAMES that MAY BE ASKED."""
    given = dict(known)
    told = states(form, whole(form, known))
    return tuple(question[0] for question, state in zip(form, told) if state == "yes" and question[0] not in given)


def knowns_behind(form, known, name):
    """Tell the KNOWNS with each ANSWER of the name more, rising by it."""
    kind = question_of(form, name)[1]
    return [sorted_store(form, known + ((name, answer),)) for answer in answers(kind)]


def sure_claim(sentence, word):
    """Tell the CLAIM by which it is SURE that the SENTENCE's word is this one, "yes" or "no"."""
    return never_claim(sentence if word == "no" else ("not", sentence))


def is_sure(form, known, sentence):
    """Tell "yes", "no" or "maybe" of the SENTENCE by all WHOLE STORES that have the known answers."""
    wishes = wishes_of(form)
    waiting = [whole(form, known)]
    words = []
    while waiting:
        box = waiting.pop()
        facts = facts_in(form, box)
        word = word_by(facts, sentence)
        if word == "maybe":
            # A word maybe tells nothing yet: in the BOXES of single WHOLE STORES there is none.
            waiting.extend(parts(form, box, split_for(wishes, facts, sentence)))
        elif word not in words:
            words.append(word)
        if len(words) == 2:
            return "maybe"
    return words[0]
