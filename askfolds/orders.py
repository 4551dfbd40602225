"""Which question looks at which, and the same questions in another order."""

from askfolds.errors import NoOrder
from askfolds.forms import is_form, names, place_of, question_of
from askfolds.terms import names_in


def ahead(form, name):
    """Tell the NAMES at which this one's wish looks, straight or by others."""
    place = place_of(form, name)
    wanted = {name: True}
    for question in form[:place + 1][::-1]:
        if question[0] in wanted:
            for seen in names_in(question[2]):
                wanted[seen] = True
    return tuple(one for one in names(form)[:place] if one in wanted)


def behind(form, name):
    """Tell the NAMES whose wishes look at this one, straight or by others."""
    place = place_of(form, name)
    reached = {name: True}
    for question in form[place + 1:]:
        if any(seen in reached for seen in names_in(question[2])):
            reached[question[0]] = True
    return tuple(one for one in names(form)[place + 1:] if one in reached)


def reordered(form, some):
    """Tell the FORM of the same QUESTIONS in the order of these NAMES."""
    if len(some) != len(form) or not all(name in some for name in names(form)):
        raise NoOrder("names")
    newer = tuple(question_of(form, name) for name in some)
    # The QUESTIONS are right ones: all that another order can spoil is that a wish looks behind itself.
    if not is_form(newer):
        raise NoOrder("ahead")
    return newer
