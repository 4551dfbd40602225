"""A store led from one form into another."""

from askfolds.forms import kinds_of
from askfolds.kinds import is_answer
from askfolds.showing import sorted_store


def led(elder, newer, store):
    """Tell (STORE of the newer FORM, lost): what it can keep of a STORE of the elder one, and why not the rest."""
    kinds = dict(kinds_of(newer))
    kept = []
    lost = []
    for name, answer in store:
        if name not in kinds:
            lost.append((name, answer, "gone"))
        elif not is_answer(kinds[name], answer):
            lost.append((name, answer, "kind"))
        else:
            kept.append((name, answer))
    return sorted_store(newer, kept), tuple(lost)
