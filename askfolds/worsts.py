"""How many asks are needed at worst, from each known that may come."""

from askfolds.asking import is_sure, knowns_behind, may_ask


def fewest_asks(form, sentence):
    """Tell (number, name) of each KNOWN: how many asks it takes at worst, and a name to ask first, "" of none."""
    found = {}
    put_asks(form, sentence, (), found)
    return found


def put_asks(form, sentence, known, found):
    """Put what is told of the KNOWN, and of those that asks make of it, into what is found."""
    if known in found:
        return
    if is_sure(form, known, sentence) != "maybe":
        found[known] = (0, "")
        return
    worsts = []
    for name in may_ask(form, known):
        further = knowns_behind(form, known, name)
        for one in further:
            put_asks(form, sentence, one, found)
        worsts.append((1 + max(found[one][0] for one in further), name))
    found[known] = min(worsts)
