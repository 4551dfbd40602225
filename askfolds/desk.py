"""A desk: a keeper that is told rows of words, and answers each with a text."""

from askfolds.counting import how_many
from askfolds.deskrows import DEED_WORDS, read_row
from askfolds.keeping import Keeper
from askfolds.texts import shown_answer, shown_fold_store, shown_form, shown_spot
from askfolds.unfolding import flat_sentence, unfolded


class Desk:
    """Keeps a keeper, at first of the FOLD ()."""

    def __init__(self):
        self.keeper = Keeper((), ((), ()))

    def say(self, row):
        """Do the deed or the look that the row asks for, and tell it as a text."""
        thing = read_row(self.keeper.fold(), row)
        if thing[0] == "change":
            return shown_change_turn(self.keeper.change(thing[1]))
        if thing[0] in DEED_WORDS:
            return shown_turn(do_deed(self.keeper, thing))
        return look(self.keeper, thing)


def do_deed(keeper, thing):
    """Do a deed that tells (came, went)."""
    word = thing[0]
    if word == "answer":
        return keeper.answer(thing[1], thing[2])
    if word == "away":
        return keeper.away(thing[1])
    if word == "in":
        return keeper.piece_in(thing[1], thing[2])
    if word == "out":
        return keeper.piece_out(thing[1], thing[2])
    if word == "shift":
        return keeper.piece_moved(thing[1], thing[2], thing[3])
    return keeper.back()


def look(keeper, thing):
    """Tell what a look sees, a text."""
    word = thing[0]
    if word == "shown":
        return in_a_row([shown_spot(spot) for spot in keeper.shown()])
    if word == "open":
        return in_a_row([shown_spot(spot) for spot in keeper.opened()])
    if word == "aside":
        return in_a_row([f"{shown_spot(spot)}={shown_answer(answer)}" for spot, answer in keeper.aside()])
    if word == "fold":
        return parted(shown_form(keeper.fold()))
    if word == "store":
        return parted(shown_fold_store(keeper.store()))
    if word == "unfolded":
        return parted(shown_form(unfolded(keeper.fold())))
    if word == "value":
        return str(keeper.value(thing[1]))
    if word == "holds":
        return "yes" if keeper.holds(thing[1]) else "no"
    return str(how_many(unfolded(keeper.fold()), flat_sentence(keeper.fold(), thing[1])))


def shown_turn(told):
    """Write what came and what went."""
    came, went = told
    return in_a_row([f"+{shown_spot(spot)}" for spot in came] + [f"-{shown_spot(spot)}" for spot in went])


def shown_change_turn(told):
    """Write what came, what went and what is lost."""
    came, went, lost = told
    texts = [f"{shown_spot(spot)} {shown_answer(answer)} {word}" for spot, answer, word in lost]
    return parted([shown_turn((came, went))] + texts)


def in_a_row(words):
    """Put words into one text, - where there are none."""
    return " ".join(words) or "-"


def parted(texts):
    """Put texts into one, - where there are none."""
    return " | ".join(texts) or "-"
