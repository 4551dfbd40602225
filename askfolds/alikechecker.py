"""The checker of alike cases: papers by boxes that two forms with a term each come to the same."""

from askfolds.boxes import whole
from askfolds.casechecker import lets_rows
from askfolds.errors import NoOrder
from askfolds.forms import kinds_of, names
from askfolds.settling import settled


def lets_alike(one, term, other, another, thing):
    """Tell True where the thing is ALIKE CASES of the two FORMS with a TERM each."""
    if not can_compare(one, other):
        raise NoOrder("kinds")
    return lets_rows(one, whole(one, ()), lambda box: settled_alike(one, term, other, another, box), thing)


def can_compare(one, other):
    """Tell whether the KINDS of the two FORMS are the same pairs, in whatever order."""
    return dict(kinds_of(one)) == dict(kinds_of(other))


def settled_alike(one, term, other, another, box):
    """Tell whether in this BOX of the one both TERMS are SETTLED, and told the same."""
    told = settled(one, box, term)
    return told is not None and told == settled(other, turned_box(one, other, box), another)


def turned_box(one, other, box):
    """Tell the BOX of the same RANGES in the other FORM's order."""
    spreads = dict(zip(names(one), box))
    return tuple(spreads[name] for name in names(other))
