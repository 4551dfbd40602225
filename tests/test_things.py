"""Point [2]: what is handed in stays, what is told is new, and nothing hangs on what was asked before."""

import copy
import random
import unittest

from askfolds import boxes, casechecker, folds, forms, kinds, readings, settling, surely, terms, texts, views
from askfolds.errors import FoldError
from tests.helpers import FALSE, ODD_THINGS, TRUE

FORM = (("n", ("number", -3, 4), TRUE), ("b", ("one", 3), ("given", "n")), ("s", ("some", 2), ("is", "b", 0)))
FOLD = (FORM[0], ("kid", 2, TRUE, (("b", ("one", 3), ("given", "n")),)))
BOX = ((-3, 4), (0, 1), ((), (1,)))
TERM = (1, (("times", "n", 2), ("of", "b", (3, 4)), ("where", ("has", "s", 0), 5)))
LISTS = ([], [[]], [True], ["n"], [("leaf",)], (["leaf"],), ["-", "0"], [[1, [2]], (3, [4])], ("all", [TRUE]), [((), ())])

LOOKS = (
    kinds.is_number, kinds.is_name, kinds.is_kind, forms.is_form, folds.is_fold,
    lambda thing: kinds.is_answer(("some", 2), thing),
    lambda thing: terms.is_sentence(forms.kinds_of(FORM), thing),
    lambda thing: terms.is_term(forms.kinds_of(FORM), thing),
    lambda thing: boxes.is_box(FORM, thing),
    lambda thing: folds.is_fold_store(FOLD, thing),
    lambda thing: forms.place_of(FORM, thing),
    lambda thing: forms.question_of(FORM, thing),
    lambda thing: casechecker.lets_cases(FORM, (), (FALSE, (0, ()), 1), thing),
)
ASKS = (
    lambda: kinds.answers(("some", 3)),
    lambda: boxes.parts(FORM, BOX, ("cut", "n", 1)),
    lambda: boxes.whole(FORM, (("b", 1),)),
    lambda: surely.states(FORM, BOX),
    lambda: surely.surely(FORM, BOX, ("is", "b", 2)),
    lambda: surely.low_high(FORM, BOX, TERM),
    lambda: settling.settled(FORM, BOX, TERM),
    lambda: settling.settled(FORM, ((1, 2), (0,), ((), (1,))), TERM),
    lambda: views.value((("n", 1), ("s", (0,))), TERM),
    lambda: terms.names_of(TERM),
    lambda: folds.spots(FOLD, ((), (((), ()),))),
    lambda: texts.shown_form(FOLD),
    lambda: texts.shown_fold_store(((), (((), ()),))),
    lambda: texts.shown_cases((("leaf",), ("each", "b"))),
    lambda: readings.read_form(texts.shown_form(FOLD)),
)


def told(ask, *things):
    """Tell what comes of an ask, a refusal by its name and fields."""
    try:
        return ask(*things)
    except FoldError as caught:
        return type(caught).__name__, vars(caught)


def same(one, other):
    """Tell whether two things are the same, True being no 1."""
    return repr(one) == repr(other)


class Things(unittest.TestCase):
    def test_what_is_handed_in_stays(self):
        for look in LOOKS:
            for thing in LISTS + ODD_THINGS:
                before = copy.deepcopy(thing)
                told(look, thing)
                self.assertTrue(same(thing, before))

    def test_the_same_asked_again_is_told_the_same(self):
        first = [told(ask) for ask in ASKS]
        looks = [[repr(told(look, thing)) for thing in LISTS + ODD_THINGS] for look in LOOKS]
        order = list(range(len(ASKS))) * 3
        random.Random(1).shuffle(order)
        for at in order:
            self.assertTrue(same(told(ASKS[at]), first[at]))
        self.assertEqual([[repr(told(look, thing)) for thing in LISTS + ODD_THINGS] for look in LOOKS], looks)

    def test_told_lists_are_new(self):
        for ask in ASKS:
            one = ask()
            if isinstance(one, list):
                before = list(one)
                one.reverse()
                one.append("more")
                self.assertTrue(same(ask(), before))

    def test_looks_tell_truths(self):
        for look in LOOKS[:-3]:
            for thing in LISTS + ODD_THINGS:
                self.assertIsInstance(look(thing), bool)


if __name__ == "__main__":
    unittest.main()
