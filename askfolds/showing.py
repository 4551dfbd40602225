"""Stores of a form, and what they show."""

from askfolds.forms import are_pairs, names
from askfolds.views import gone_through


def is_store(form, thing):
    """Tell whether the thing is a STORE of the FORM."""
    return are_pairs(form, thing)


def is_filling(form, thing):
    """Tell whether the thing is a FILLING of the FORM."""
    return is_store(form, thing) and opened(form, thing) == () and aside(form, thing) == ()


def sorted_store(form, pairs):
    """Tell the STORE of the FORM that has just these pairs."""
    given = dict(pairs)
    return tuple((name, given[name]) for name in names(form) if name in given)


def shown(form, store):
    """Tell the NAMES that SHOW."""
    found, seen = gone_through(form, {}, store)
    return tuple(found)


def opened(form, store):
    """Tell the NAMES that are OPEN."""
    given = dict(store)
    return tuple(name for name in shown(form, store) if name not in given)


def view(form, store):
    """Tell the VIEW of the STORE."""
    found, seen = gone_through(form, {}, store)
    return tuple(seen.items())


def aside(form, store):
    """Tell what is ASIDE."""
    found = shown(form, store)
    return tuple(pair for pair in store if pair[0] not in found)
