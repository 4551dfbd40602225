"""Point [2]: what is handed in stays, what is told is new, and nothing hangs on what was asked before."""

import copy
import random
import unittest

from askfolds import (
    alikechecker, askchecker, asking, asktrees, boxes, casechecker, cases, changing, comparing, counting, desk, extremechecker,
    extremes, foldchanges, folds, foldviews, forms, keeping, kinds, leading, listing, needchecker, needs, orders, pieces, pruning,
    reachchecker, reaching, readings, settling, showing, surely, terms, texts, unfolding, views
)
from askfolds.errors import FoldError
from tests.helpers import FALSE, ODD_THINGS, TRUE

FORM = (("n", ("number", -3, 4), TRUE), ("b", ("one", 3), ("given", "n")), ("s", ("some", 2), ("is", "b", 0)))
FOLD = (FORM[0], ("kid", 2, TRUE, (("b", ("one", 3), ("given", "n")),)))
BOX = ((-3, 4), (0, 1), ((), (1,)))
TERM = (1, (("times", "n", 2), ("of", "b", (3, 4)), ("where", ("has", "s", 0), 5)))
STORE = ((("n", 2),), (((), (("b", 1),)),))
LISTS = ([], [[]], [True], ["n"], [("leaf",)], (["leaf"],), ["-", "0"], [[1, [2]], (3, [4])], ("all", [TRUE]), [((), ())])

TRUTHS = (
    kinds.is_number, kinds.is_name, kinds.is_kind, forms.is_form, folds.is_fold,
    lambda thing: kinds.is_answer(("some", 2), thing),
    lambda thing: terms.is_sentence(forms.kinds_of(FORM), thing),
    lambda thing: terms.is_term(forms.kinds_of(FORM), thing),
    lambda thing: boxes.is_box(FORM, thing),
    lambda thing: folds.is_fold_store(FOLD, thing),
    lambda thing: showing.is_store(FORM, thing),
    lambda thing: showing.is_filling(FORM, thing),
)
LOOKS = TRUTHS + (
    lambda thing: forms.place_of(FORM, thing),
    lambda thing: forms.question_of(FORM, thing),
    lambda thing: casechecker.lets_cases(FORM, (), (FALSE, (0, ()), 1), thing),
    lambda thing: alikechecker.lets_alike(FORM, (0, ()), FORM, (0, ()), thing),
    lambda thing: extremechecker.lets_least(FORM, TRUE, TERM, thing),
    lambda thing: extremechecker.lets_least(FORM, TRUE, (0, ()), (0, thing, (("leaf",),))),
    lambda thing: extremechecker.lets_least(FORM, TRUE, (0, ()), (0, (("n", 1), ("b", 1)), thing)),
    lambda thing: reachchecker.lets_reach(FORM, TRUE, thing),
    lambda thing: reachchecker.lets_reach(FORM, TRUE, ("least", thing, (("leaf",),))),
    lambda thing: reachchecker.lets_reach(FORM, TRUE, ("never", thing)),
    lambda thing: askchecker.lets_asks(FORM, TRUE, thing),
    lambda thing: askchecker.lets_asks(FORM, TRUE, (thing,)),
    lambda thing: askchecker.lets_asks(FORM, TRUE, (("sure", "yes", thing),)),
    lambda thing: needchecker.lets_needs(FORM, TRUE, thing),
    lambda thing: needchecker.lets_needs(FORM, TRUE, (thing,)),
    lambda thing: needchecker.lets_needs(FORM, TRUE, ((thing, 1, (), ()),)),
    lambda thing: pruning.without(FORM, thing),
    lambda thing: keeping.Keeper(FOLD, STORE).answer(thing, 1),
    lambda thing: keeping.Keeper(FOLD, STORE).answer(("b", 1), thing),
    lambda thing: keeping.Keeper(FOLD, STORE).away(thing),
    lambda thing: keeping.Keeper(FOLD, STORE).piece_in(thing, 0),
    lambda thing: keeping.Keeper(FOLD, STORE).piece_out("kid", thing),
    lambda thing: keeping.Keeper(FOLD, STORE).piece_moved("kid", 0, thing),
    lambda thing: keeping.Keeper(FOLD, STORE).change(thing),
    lambda thing: keeping.Keeper(FOLD, STORE).change(("wish", "kid", thing)),
    lambda thing: pieces.piece_in(FOLD, STORE, thing, 0),
    lambda thing: pieces.piece_out(FOLD, STORE, "kid", thing),
    lambda thing: changing.changed(FORM, thing),
    lambda thing: changing.changed(FORM, ("wish", "n", thing)),
    lambda thing: changing.changed(FORM, ("put", 0, ("x", ("one", 2), thing))),
    lambda thing: foldchanges.fold_changed(FOLD, thing),
    lambda thing: foldchanges.fold_changed(FOLD, ("put", "", 0, thing)),
    lambda thing: foldchanges.fold_changed(FOLD, ("kind", "n", thing)),
)
ASKS = (
    lambda: kinds.answers(("some", 3)),
    lambda: boxes.parts(FORM, BOX, ("cut", "n", 1)),
    lambda: boxes.whole(FORM, (("b", 1),)),
    lambda: surely.states(FORM, BOX),
    lambda: surely.surely(FORM, BOX, ("is", "b", 2)),
    lambda: surely.low_high(FORM, BOX, TERM),
    lambda: settling.settled(FORM, BOX, TERM),
    lambda: settling.settled(FORM, ((1, 2), (0,), ((), (1,))), TERM),
    lambda: views.value((("n", 1), ("s", (0,))), TERM),
    lambda: terms.names_of(TERM),
    lambda: folds.spots(FOLD, ((), (((), ()),))),
    lambda: texts.shown_form(FOLD),
    lambda: texts.shown_fold_store(((), (((), ()),))),
    lambda: texts.shown_cases((("leaf",), ("each", "b"))),
    lambda: readings.read_form(texts.shown_form(FOLD)),
    lambda: counting.how_many(FORM, ("has", "s", 1)),
    lambda: counting.by_answers(FORM, ("given", "b"), "s"),
    lambda: orders.ahead(FORM, "s"),
    lambda: orders.behind(FORM, "n"),
    lambda: orders.reordered(FORM, ("n", "b", "s")),
    lambda: orders.reordered(FORM, ("b", "n", "s")),
    lambda: changing.changed(FORM, ("take", "s")),
    lambda: foldviews.fold_shown(FOLD, STORE),
    lambda: foldviews.fold_opened(FOLD, STORE),
    lambda: foldviews.fold_aside(FOLD, ((), STORE[1])),
    lambda: foldviews.fold_holds(FOLD, STORE, ("least", (0, (("pieces", "kid", (0, (("of", "b", (0, 1)),))),)), 1)),
    lambda: foldviews.fold_value(FOLD, STORE, (0, (("pieces", "kid", (2, ())),))),
    lambda: foldchanges.fold_changed(FOLD, ("most", "kid", 1)),
    lambda: foldchanges.fold_led(FOLD, FOLD[:1], STORE),
    lambda: showing.sorted_store(FORM, (("s", ()), ("n", 1))),
    lambda: showing.shown(FORM, (("n", 1), ("b", 0))),
    lambda: showing.opened(FORM, (("n", 1), ("b", 0))),
    lambda: showing.view(FORM, (("n", 1), ("s", ()))),
    lambda: showing.aside(FORM, (("n", 1), ("s", ()))),
    lambda: unfolding.unfolded(FOLD),
    lambda: unfolding.flat_store(FOLD, STORE),
    lambda: unfolding.flat_term(FOLD, (0, (("pieces", "kid", (2, ())),))),
    lambda: pieces.piece_out(FOLD, STORE, "kid", 0),
    lambda: pieces.piece_in(FOLD, STORE, "kid", 0),
    lambda: pieces.piece_moved(FOLD, STORE, "kid", 0, 1),
    lambda: comparing.alike(FORM, TERM, FORM, (TERM[0], TERM[1][::-1])),
    lambda: comparing.alike(FORM, TERM, FORM, (2, TERM[1])),
    lambda: comparing.alike(FORM, TERM, FORM[:2], TERM),
    lambda: asking.may_ask(FORM, (("n", 1),)),
    lambda: asking.is_sure(FORM, (("n", 1),), ("is", "b", 1)),
    lambda: cases.claim_cases(FORM, (), (("given", "b"), TERM, -6)),
    lambda: cases.claim_cases(FORM, (("b", 1),), (TRUE, TERM, 0)),
    lambda: listing.row_of(FORM, (("n", 1), ("b", 1))),
    lambda: listing.filling_at(FORM, ("given", "s"), 3),
    lambda: listing.filling_at(FORM, ("given", "s"), -3),
    lambda: listing.number_of(FORM, TRUE, (("n", 1), ("b", 1))),
    lambda: leading.led(FORM, FORM[:1], (("n", 1), ("b", 1))),
    lambda: keeping.Keeper(FOLD, STORE).answer("n", 3),
    lambda: keeping.Keeper(FOLD, STORE).change(("take", "kid")),
    lambda: keeping.Keeper(FOLD, STORE).back(),
    lambda: reaching.answers_term(FORM),
    lambda: reaching.reach(FORM, ("given", "s")),
    lambda: reaching.reach(FORM, ("is", "b", 7)),
    lambda: extremes.contrary(TERM),
    lambda: extremes.least(FORM, ("given", "s"), TERM),
    lambda: extremes.greatest(FORM, TRUE, TERM),
    lambda: extremes.greatest(FORM, FALSE, TERM),
    lambda: pruning.never_shown(FORM),
    lambda: pruning.always_shown(FORM),
    lambda: pruning.without(FORM, "b"),
    lambda: pruning.pruned(FORM),
    lambda: asktrees.ask_tree(FORM, ("has", "s", 1)),
    lambda: needs.needs_paper(FORM, ("has", "s", 1)),
    lambda: desk.Desk().say("change put - 0 ask n one 2 all 0"),
    lambda: desk.Desk().say("fold"),
    lambda: desk.Desk().say("nothing"),
)


def told(ask, *things):
    """Tell what comes of an ask, a refusal by its name and fields."""
    try:
        return ask(*things)
    except FoldError as caught:
        return type(caught).__name__, vars(caught)


def same(one, other):
    """Tell whether two things are the same, True being no 1."""
    return repr(one) == repr(other)


class Things(unittest.TestCase):
    def test_what_is_handed_in_stays(self):
        for look in LOOKS:
            for thing in LISTS + ODD_THINGS:
                before = copy.deepcopy(thing)
                told(look, thing)
                self.assertTrue(same(thing, before))

    def test_the_same_asked_again_is_told_the_same(self):
        first = [told(ask) for ask in ASKS]
        looks = [[repr(told(look, thing)) for thing in LISTS + ODD_THINGS] for look in LOOKS]
        order = list(range(len(ASKS))) * 3
        random.Random(1).shuffle(order)
        for at in order:
            self.assertTrue(same(told(ASKS[at]), first[at]))
        self.assertEqual([[repr(told(look, thing)) for thing in LISTS + ODD_THINGS] for look in LOOKS], looks)

    def test_told_lists_are_new(self):
        for ask in ASKS:
            one = told(ask)
            if isinstance(one, list):
                before = list(one)
                one.reverse()
                one.append("more")
                self.assertTrue(same(told(ask), before))

    def test_looks_tell_truths(self):
        for look in TRUTHS:
            for thing in LISTS + ODD_THINGS:
                self.assertIsInstance(look(thing), bool)


if __name__ == "__main__":
    unittest.main()
