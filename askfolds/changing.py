"""Forms changed: a question put in, taken out, moved, or given another kind or wish."""

from askfolds.errors import NoChange
from askfolds.forms import is_form, names, place_of
from askfolds.kinds import is_kind, is_name, is_number
from askfolds.rows import moved_to, put_in, put_instead, taken_out


def changed(form, thing):
    """Tell the FORM, changed by the thing."""
    if not is_change(thing):
        raise NoChange("shape")
    if thing[0] == "put":
        newer = with_question(form, thing[1], thing[2])
    else:
        newer = with_change(form, thing)
    if not is_form(newer):
        raise NoChange("form")
    return newer


def is_change(thing):
    """Tell whether the thing is a CHANGE."""
    if not isinstance(thing, tuple) or len(thing) not in (2, 3):
        return False
    word = thing[0]
    if word == "put":
        return len(thing) == 3 and is_number(thing[1]) and may_be_question(thing[2])
    if not is_name(thing[1]):
        return False
    if len(thing) == 2:
        return word == "take"
    if word == "move":
        return is_number(thing[2])
    return word == "wish" or word == "kind" and is_kind(thing[2])


def may_be_question(thing):
    """Tell whether the thing is a tuple of a NAME, a KIND and any thing."""
    return isinstance(thing, tuple) and len(thing) == 3 and is_name(thing[0]) and is_kind(thing[1])


def with_question(form, place, question):
    """Tell the FORM with one QUESTION more."""
    if question[0] in names(form):
        raise NoChange("name")
    if not 0 <= place <= len(form):
        raise NoChange("place")
    return put_in(form, place, question)


def with_change(form, change):
    """Tell the FORM in which a QUESTION that it has is changed."""
    word, name = change[0], change[1]
    if name not in names(form):
        raise NoChange("name")
    place = place_of(form, name)
    if word == "take":
        return taken_out(form, place)
    if word == "move":
        if not 0 <= change[2] < len(form):
            raise NoChange("place")
        return moved_to(form, place, change[2])
    same, kind, wish = form[place]
    if word == "kind":
        return put_instead(form, place, (name, change[2], wish))
    return put_instead(form, place, (name, kind, change[2]))
