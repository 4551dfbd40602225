"""Points [82] to [85]: a keeper."""

import random
import unittest

from askfolds.errors import FoldError, NoAnswer, NoChange, NoName, NoPiece, NoStep
from askfolds.foldchanges import fold_changed, fold_led
from askfolds.folds import is_fold, is_fold_store, spots
from askfolds.foldviews import fold_aside, fold_holds, fold_opened, fold_shown, fold_value
from askfolds.keeping import Keeper
from askfolds.kinds import answers
from askfolds.showing import aside, opened, shown
from askfolds.unfolding import flat_store, unfolded
from tests.helpers import (
    BIG, FALSE, ODD_THINGS, TRUE, lively_sentence, random_fold, random_fold_store, random_kind, random_term, seen_behind
)

AGED = ("least", (0, (("times", "age", 1),)), 6)
N = ("n", ("number", -3, 9), TRUE)
KID = ("kid", 3, ("least", (0, (("times", "n", 1),)), 1), (("age", ("number", 0, 99), TRUE), ("job", ("one", 3), AGED), ("toy", ("some", 3), TRUE)))
PET = ("pet", 2, TRUE, ())
TAX = ("tax", ("one", 2), ("least", (0, (("pieces", "kid", (0, (("times", "age", 1),))),)), 40))
FOLD = (N, KID, PET, TAX)
ANN = (("age", 30), ("job", 1))
BEN = (("age", 4), ("toy", (0, 2)))
STORE = ((("n", 2),), ((ANN, BEN), ()))
TERM = (1, (("times", "n", 1), ("times", "pet", 100), ("pieces", "kid", (10, (("times", "age", 1),)))))


def caught_by(deed, *things):
    """Tell the refusal of a deed, None where it is none."""
    try:
        deed(*things)
    except FoldError as caught:
        return caught
    return None


def all_told(keeper):
    """Tell all that a keeper tells by itself."""
    return keeper.fold(), keeper.store(), keeper.shown(), keeper.opened(), keeper.aside()


class Kept(unittest.TestCase):
    def kept(self, keeper, store, fold=FOLD):
        """Look whether the keeper tells what a new one of this FOLD and FOLD STORE tells."""
        self.assertTrue(is_fold(fold) and is_fold_store(fold, store))
        self.assertEqual(all_told(keeper), all_told(Keeper(fold, store)))
        self.assertEqual((keeper.fold(), keeper.store()), (fold, store))

    def refused(self, kind, fields, deed, *things):
        """Look whether a deed is refused so."""
        caught = caught_by(deed, *things)
        self.assertIs(type(caught), kind, things)
        self.assertEqual(vars(caught), fields, things)
        return caught


class Looks(Kept):
    def test_told(self):
        keeper = Keeper(FOLD, STORE)
        self.assertEqual(keeper.fold(), FOLD)
        self.assertEqual(keeper.store(), STORE)
        self.assertEqual(keeper.shown(), ("n", "kid", ("age", 0), ("job", 0), ("toy", 0), ("age", 1), ("toy", 1), "pet"))
        self.assertEqual(keeper.opened(), (("toy", 0),))
        self.assertEqual(keeper.aside(), ())
        self.assertEqual(keeper.value(TERM), 1 + 2 + 20 + 34)
        self.assertIs(keeper.holds(TAX[2]), False)
        self.assertIs(keeper.holds(KID[2]), True)

    def test_aside(self):
        keeper = Keeper(FOLD, ((("n", 0), ("tax", 1)), ((ANN,), ((), ()))))
        self.assertEqual(keeper.shown(), ("n", "pet"))
        self.assertEqual(keeper.opened(), ())
        self.assertEqual(keeper.aside(), (("kid", 1), (("age", 0), 30), (("job", 0), 1), ("tax", 1)))
        self.assertEqual(keeper.value(TERM), 201)

    def test_the_empty_fold(self):
        keeper = Keeper((), ((), ()))
        self.assertEqual(all_told(keeper), ((), ((), ()), (), (), ()))
        self.assertEqual(keeper.value((7, ())), 7)
        self.assertIs(keeper.holds(TRUE), True)
        self.assertIs(keeper.holds(FALSE), False)

    def test_as_the_functions_tell(self):
        dice = random.Random(83)
        for turn in range(100):
            fold = random_fold(dice, dice.randint(0, 4))
            store = random_fold_store(dice, fold)
            keeper = Keeper(fold, store)
            self.assertEqual(all_told(keeper), (fold, store, fold_shown(fold, store), fold_opened(fold, store), fold_aside(fold, store)))
            ahead, blocks = seen_behind(fold)
            sentence, term = lively_sentence(dice, ahead, 3, blocks), random_term(dice, ahead, 2, blocks)
            self.assertEqual(keeper.holds(sentence), fold_holds(fold, store, sentence))
            self.assertEqual(keeper.value(term), fold_value(fold, store, term))

    def test_names_of_the_arguments(self):
        keeper = Keeper(fold=FOLD, store=STORE)
        self.assertEqual(keeper.value(term=(3, ())), 3)
        self.assertIs(keeper.holds(sentence=TRUE), True)
        self.assertEqual(keeper.answer(spot="n", thing=2), ((), ()))
        self.assertEqual(keeper.away(spot=("age", 1)), ((), ()))
        self.assertEqual(keeper.piece_in(block="pet", place=0), ((), ()))
        self.assertEqual(keeper.piece_out(block="pet", place=0), ((), ()))
        self.assertEqual(keeper.piece_moved(block="kid", one=0, other=0), ((), ()))
        self.assertEqual(keeper.change(thing=("move", "pet", 2)), ((), (), ()))
        self.assertEqual(keeper.back(), ((), ()))


class Answers(Kept):
    def test_given(self):
        keeper = Keeper(FOLD, STORE)
        self.assertEqual(keeper.answer(("toy", 0), ()), ((), ()))
        self.kept(keeper, ((("n", 2),), ((ANN + (("toy", ()),), BEN), ())))
        self.assertEqual(keeper.answer(("age", 1), 10), ((("job", 1), "tax"), ()))
        self.kept(keeper, ((("n", 2),), ((ANN + (("toy", ()),), (("age", 10), ("toy", (0, 2)))), ())))
        self.assertEqual(keeper.answer("tax", 1), ((), ()))
        self.kept(keeper, ((("n", 2), ("tax", 1)), ((ANN + (("toy", ()),), (("age", 10), ("toy", (0, 2)))), ())))
        self.assertEqual(keeper.answer(("age", 0), 5), ((), (("job", 0), "tax")))
        self.kept(keeper, ((("n", 2), ("tax", 1)), (((("age", 5), ("job", 1), ("toy", ())), (("age", 10), ("toy", (0, 2)))), ())))

    def test_in_the_orders_of_fold_and_body(self):
        keeper = Keeper(FOLD, ((), (((), ()), ())))
        keeper.answer("n", 1)
        for spot, thing in ((("toy", 1), (1,)), (("age", 1), 9), (("job", 1), 2), (("toy", 0), ()), (("age", 0), 50), ("tax", 0), ("n", 3)):
            keeper.answer(spot, thing)
        self.kept(keeper, ((("n", 3), ("tax", 0)), (((("age", 50), ("toy", ())), (("age", 9), ("job", 2), ("toy", (1,)))), ())))

    def test_came_and_went_in_their_orders(self):
        keeper = Keeper(FOLD, STORE)
        gone = ("kid", ("age", 0), ("job", 0), ("toy", 0), ("age", 1), ("toy", 1))
        self.assertEqual(keeper.answer("n", 0), ((), gone))
        self.assertEqual(keeper.answer("n", 9), (gone, ()))
        turning = (("a", ("one", 2), TRUE), ("x", ("one", 1), ("is", "a", 0)), ("y", ("one", 1), ("is", "a", 1)), ("z", ("one", 1), ("is", "a", 0)))
        keeper = Keeper(turning, ((), ()))
        self.assertEqual(keeper.answer("a", 1), (("y",), ()))
        self.assertEqual(keeper.answer("a", 0), (("x", "z"), ("y",)))
        self.assertEqual(keeper.answer("a", 1), (("y",), ("x", "z")))
        self.assertEqual(keeper.away("a"), ((), ("y",)))

    def test_no_spot_of_a_question(self):
        keeper = Keeper(FOLD, STORE)
        for spot in ODD_THINGS + (
            "x", "kid", "pet", "age", "job", "toy", "N", "n0", "age0", "age.0", ("n", 0), ("kid", 0), ("age", 2), ("age", -1), ("age", BIG), ("age", True),
            ("age", False), ("age", None), ("age", "0"), ("age", (0,)), ("age",), ("age", 0, 0), ["age", 0], (["age"], 0), ("x", 0), ("tax", 0), (0, "age"),
            ["n"], ("n",), (("age", 0),), (True, 0),
        ):
            for thing in (0, 1, None, ()):
                self.assertIs(self.refused(NoName, {"name": spot}, keeper.answer, spot, thing).name, spot)
            self.assertIs(self.refused(NoName, {"name": spot}, keeper.away, spot).name, spot)
        self.kept(keeper, STORE)

    def test_hidden(self):
        keeper = Keeper(FOLD, STORE)
        for spot in ("tax", ("job", 1)):
            for thing in (0, 1, 7, None, "x", True, ()):
                self.refused(NoAnswer, {"word": "hidden"}, keeper.answer, spot, thing)
        keeper.answer("n", 0)
        for spot in (("age", 0), ("toy", 1), ("job", 0)):
            self.refused(NoAnswer, {"word": "hidden"}, keeper.answer, spot, 0)
        self.refused(NoName, {"name": ("age", 2)}, keeper.answer, ("age", 2), 0)

    def test_kind(self):
        keeper = Keeper(FOLD, STORE)
        for spot, things in (
            ("n", (-4, 10, BIG, True, False, None, "2", (), (2,), [2])), (("job", 0), (3, -1, True, None, (0,), "1")),
            (("toy", 1), (0, [0], (0, 0), (1, 0), (3,), (True,), (-1,), [], None, "/0", ((),))), (("age", 0), (100, -1, False, (1,))),
        ):
            for thing in things:
                self.refused(NoAnswer, {"word": "kind"}, keeper.answer, spot, thing)
        self.kept(keeper, STORE)
        self.refused(NoStep, {}, keeper.back)

    def test_put_away(self):
        keeper = Keeper(FOLD, STORE)
        self.assertEqual(keeper.away(("age", 0)), ((), (("job", 0),)))
        self.kept(keeper, ((("n", 2),), (((("job", 1),), BEN), ())))
        self.assertEqual(keeper.aside(), ((("job", 0), 1),))
        # What is ASIDE may be put away, too.
        self.assertEqual(keeper.away(("job", 0)), ((), ()))
        self.kept(keeper, ((("n", 2),), (((), BEN), ())))
        self.assertEqual(keeper.away("n"), ((), ("kid", ("age", 0), ("toy", 0), ("age", 1), ("toy", 1))))
        self.assertEqual(keeper.away(("toy", 1)), ((), ()))
        self.kept(keeper, ((), (((), BEN[:1]), ())))

    def test_nothing_to_put_away(self):
        keeper = Keeper(FOLD, STORE)
        for spot in ("tax", ("toy", 0), ("job", 1)):
            self.refused(NoAnswer, {"word": "none"}, keeper.away, spot)
        keeper.away("n")
        self.refused(NoAnswer, {"word": "none"}, keeper.away, "n")
        self.refused(NoAnswer, {"word": "none"}, keeper.away, ("toy", 0))


class Pieces(Kept):
    def test_in(self):
        keeper = Keeper(FOLD, STORE)
        self.assertEqual(keeper.piece_in("kid", 1), ((("age", 2), ("toy", 2)), ()))
        self.kept(keeper, ((("n", 2),), ((ANN, (), BEN), ())))
        self.assertEqual(keeper.piece_in("pet", 0), ((), ()))
        self.kept(keeper, ((("n", 2),), ((ANN, (), BEN), ((),))))

    def test_spots_by_name_and_place_alone(self):
        keeper = Keeper(FOLD, STORE)
        # Behind it BEN has the place that a new piece would have, and job shows at 1 no more than at first.
        self.assertEqual(keeper.piece_in("kid", 0), ((("job", 1), ("age", 2), ("toy", 2)), (("job", 0),)))
        self.kept(keeper, ((("n", 2),), (((), ANN, BEN), ())))
        self.assertEqual(keeper.piece_out("kid", 0), ((("job", 0),), (("job", 1), ("age", 2), ("toy", 2))))
        self.kept(keeper, STORE)
        self.assertEqual(keeper.piece_moved("kid", 0, 1), ((("job", 1),), (("job", 0),)))
        self.kept(keeper, ((("n", 2),), ((BEN, ANN), ())))

    def test_out(self):
        keeper = Keeper(FOLD, STORE)
        self.assertEqual(keeper.piece_out("kid", 1), ((), (("age", 1), ("toy", 1))))
        self.kept(keeper, ((("n", 2),), ((ANN,), ())))
        self.assertEqual(keeper.piece_out("kid", 0), ((), (("age", 0), ("job", 0), ("toy", 0))))
        self.kept(keeper, ((("n", 2),), ((), ())))

    def test_block(self):
        keeper = Keeper(FOLD, STORE)
        for block in ODD_THINGS + ("n", "tax", "age", "", "KID", ("kid",), ["kid"], "x", ("kid", 0)):
            for place in (0, 9, None):
                self.refused(NoPiece, {"word": "block"}, keeper.piece_in, block, place)
                self.refused(NoPiece, {"word": "block"}, keeper.piece_out, block, place)
                self.refused(NoPiece, {"word": "block"}, keeper.piece_moved, block, place, place)

    def test_hidden(self):
        keeper = Keeper(FOLD, ((), ((ANN, BEN, ()), ())))
        for place in (0, 1, 3, 4, -1, None, True):
            self.refused(NoPiece, {"word": "hidden"}, keeper.piece_in, "kid", place)
            self.refused(NoPiece, {"word": "hidden"}, keeper.piece_out, "kid", place)
            self.refused(NoPiece, {"word": "hidden"}, keeper.piece_moved, "kid", place, place)
        self.refused(NoStep, {}, keeper.back)

    def test_most_and_place(self):
        keeper = Keeper(FOLD, STORE)
        keeper.piece_in("kid", 2)
        for place in (0, 3, 4, -1, None, True, "0"):
            self.refused(NoPiece, {"word": "most"}, keeper.piece_in, "kid", place)
        keeper.back()
        wrong = (-1, BIG, -BIG, None, True, False, "0", (0,), [0], ())
        for place in wrong + (3,):
            self.refused(NoPiece, {"word": "place"}, keeper.piece_in, "kid", place)
        for place in wrong + (2, 3):
            self.refused(NoPiece, {"word": "place"}, keeper.piece_out, "kid", place)
            for one, other in ((place, 0), (0, place), (place, place)):
                self.refused(NoPiece, {"word": "place"}, keeper.piece_moved, "kid", one, other)
        for place in (0, -1, None):
            self.refused(NoPiece, {"word": "place"}, keeper.piece_out, "pet", place)
            self.refused(NoPiece, {"word": "place"}, keeper.piece_moved, "pet", place, 0)
        self.kept(keeper, STORE)


class Changes(Kept):
    def test_nothing_lost(self):
        keeper = Keeper(FOLD, STORE)
        more = ("x", ("one", 2), TRUE)
        self.assertEqual(keeper.change(("put", "", 0, more)), (("x",), (), ()))
        self.kept(keeper, STORE, (more,) + FOLD)
        self.assertEqual(keeper.change(("put", "kid", 1, ("y", ("one", 2), TRUE))), ((("y", 0), ("y", 1)), (), ()))
        self.assertEqual(keeper.shown(), ("x", "n", "kid", ("age", 0), ("y", 0), ("job", 0), ("toy", 0), ("age", 1), ("y", 1), ("toy", 1), "pet"))
        self.assertEqual(keeper.change(("move", "pet", 1)), ((), (), ()))
        self.assertEqual(keeper.store(), ((("n", 2),), ((), (ANN, BEN))))

    def test_lost(self):
        keeper = Keeper(FOLD, STORE)
        self.assertEqual(keeper.change(("take", "job")), ((), (("job", 0),), ((("job", 0), 1, "gone"),)))
        self.assertEqual(keeper.change(("most", "kid", 1)), ((), (("age", 1), ("toy", 1)), ((("age", 1), 4, "piece"), (("toy", 1), (0, 2), "piece"))))
        self.assertEqual(keeper.change(("kind", "n", ("number", 0, 1))), ((), ("kid", ("age", 0), ("toy", 0)), (("n", 2, "kind"),)))
        self.assertEqual(keeper.store(), ((), (((("age", 30),),), ())))
        self.assertEqual(keeper.aside(), (("kid", 1), (("age", 0), 30)))
        for turn in range(3):
            keeper.back()
        self.kept(keeper, STORE)

    def test_came_and_went_of_a_change(self):
        keeper = Keeper(FOLD, STORE)
        self.assertEqual(keeper.change(("wish", "kid", FALSE)), ((), ("kid", ("age", 0), ("job", 0), ("toy", 0), ("age", 1), ("toy", 1)), ()))
        self.assertEqual(keeper.change(("wish", "tax", TRUE)), (("tax",), (), ()))
        self.assertEqual(keeper.back(), ((), ("tax",)))
        self.assertEqual(keeper.back(), (("kid", ("age", 0), ("job", 0), ("toy", 0), ("age", 1), ("toy", 1)), ()))
        self.kept(keeper, STORE)

    def test_rising_as_they_were_and_are(self):
        fold = (("a", ("one", 2), TRUE), ("x", ("one", 1), ("is", "a", 0)), ("y", ("one", 1), ("is", "a", 0)), ("z", ("one", 1), ("is", "a", 1)))
        keeper = Keeper(fold, ((("a", 0),), ()))
        self.assertEqual(keeper.change(("move", "y", 1)), ((), (), ()))
        self.assertEqual(keeper.answer("a", 1), (("z",), ("y", "x")))
        self.assertEqual(keeper.answer("a", 0), (("y", "x"), ("z",)))

    def test_refused(self):
        keeper = Keeper(FOLD, STORE)
        for thing, word in [(thing, "shape") for thing in ODD_THINGS] + [
            (["take", "tax"], "shape"), (("take", "x"), "name"), (("move", "n", True), "shape"), (("move", "n", 9), "place"), (("put", "", 5, N), "place"),
            (("put", "", 0, N), "fold"), (("take", "kid"), "fold"), (("kind", "kid", ("one", 2)), "name"), (("most", "kid", 0), "fold"), (("most", "n", 1), "name"),
            (("wish", "n", ["all", ()]), "fold"), (("kind", "age", ("one", 2)), "fold"), (("put", "kid", 0, PET), "fold"), (("move", "n", 1), "fold"),
        ]:
            self.refused(NoChange, {"word": word}, keeper.change, thing)
        self.kept(keeper, STORE)
        self.refused(NoStep, {}, keeper.back)


class Back(Kept):
    def test_nothing_to_take_back(self):
        keeper = Keeper(FOLD, STORE)
        self.refused(NoStep, {}, keeper.back)
        keeper.answer("n", 3)
        self.assertEqual(keeper.back(), ((), ()))
        # Taking back is no deed.
        self.refused(NoStep, {}, keeper.back)
        self.kept(keeper, STORE)

    def test_deeds_that_leave_all_as_it_was(self):
        keeper = Keeper(FOLD, STORE)
        keeper.answer("n", 3)
        for deed, things in (
            (keeper.answer, ("n", 3)), (keeper.piece_moved, ("kid", 1, 1)), (keeper.change, (("move", "n", 0),)), (keeper.answer, (("toy", 1), (0, 2))),
            (keeper.change, (("wish", "pet", TRUE),)),
        ):
            deed(*things)
            self.kept(keeper, ((("n", 3),), STORE[1]))
        for turn in range(5):
            self.assertEqual(keeper.back(), ((), ()))
            self.kept(keeper, ((("n", 3),), STORE[1]))
        keeper.back()
        self.kept(keeper, STORE)
        self.refused(NoStep, {}, keeper.back)

    def test_what_was_refused_is_none(self):
        keeper = Keeper(FOLD, STORE)
        keeper.answer("n", 3)
        for deed, things in (
            (keeper.answer, ("n", 30)), (keeper.answer, ("zz", 3)), (keeper.away, ("tax",)), (keeper.piece_in, ("kid", 7)), (keeper.piece_out, ("pet", 0)),
            (keeper.piece_moved, ("n", 0, 0)), (keeper.change, (("take", "kid"),)),
        ):
            self.assertIsNotNone(caught_by(deed, *things))
        keeper.back()
        self.kept(keeper, STORE)
        self.refused(NoStep, {}, keeper.back)

    def test_taken_back_and_done_again(self):
        keeper = Keeper(FOLD, STORE)
        keeper.answer("n", 3)
        keeper.answer("n", 0)
        keeper.back()
        keeper.piece_out("kid", 0)
        self.kept(keeper, ((("n", 3),), ((BEN,), ())))
        keeper.back()
        self.kept(keeper, ((("n", 3),), STORE[1]))
        keeper.back()
        self.kept(keeper, STORE)
        self.refused(NoStep, {}, keeper.back)


class So(Kept):
    def test_hidden_and_shown_again(self):
        keeper = Keeper(FOLD, STORE)
        keeper.answer(("age", 1), 10)
        keeper.answer("tax", 1)
        keeper.answer("n", 0)
        self.assertEqual(keeper.aside(), (
            ("kid", 2), (("age", 0), 30), (("job", 0), 1), (("age", 1), 10), (("toy", 1), (0, 2)), ("tax", 1),
        ))
        keeper.answer("n", 5)
        self.assertEqual(keeper.aside(), ())
        self.assertEqual(keeper.store(), ((("n", 5), ("tax", 1)), ((ANN, (("age", 10), ("toy", (0, 2)))), ())))
        self.assertIs(keeper.holds(("is", "tax", 1)), True)

    def test_two_keepers_of_one_fold(self):
        one, other = Keeper(FOLD, STORE), Keeper(FOLD, STORE)
        one.answer("n", 0)
        one.change(("take", "tax"))
        self.kept(other, STORE)
        self.refused(NoStep, {}, other.back)
        other.piece_out("kid", 0)
        self.assertEqual(one.store(), ((("n", 0),), STORE[1]))
        one.back()
        one.back()
        self.kept(one, STORE)
        self.kept(other, ((("n", 2),), ((BEN,), ())))

    def test_what_was_told_stays(self):
        keeper = Keeper(FOLD, STORE)
        told = all_told(keeper)
        before = repr(told)
        keeper.answer("n", 0)
        keeper.change(("take", "tax"))
        self.assertEqual(repr(told), before)
        spot = ["age", 0]
        caught = caught_by(keeper.answer, spot, 1)
        spot.append(1)
        self.assertIs(caught.name, spot)

    def random_deed(self, dice, keeper):
        """Choose a deed and the things for it, often right ones."""
        fold, store = keeper.fold(), keeper.store()
        some = list(spots(fold, store)) + list(keeper.shown()) * 3 + [("zz", 0), "zz", ("a", True)]
        blocks = [item[0] for item in fold if len(item) == 4] + ["zz"]
        place = dice.choice((0, 0, 1, 2, 3, -1, True))
        names = [spot if isinstance(spot, str) else spot[0] for spot in some]
        change = dice.choice((
            ("put", dice.choice(blocks + [""]), place, ("z" + dice.choice("abcdef"), random_kind(dice), TRUE)), ("take", dice.choice(names)),
            ("move", dice.choice(names), place), ("kind", dice.choice(names), random_kind(dice)), ("most", dice.choice(blocks), dice.randint(0, 4)),
            ("wish", dice.choice(names), dice.choice((TRUE, FALSE, ("given", dice.choice(names))))),
        ))
        return dice.choice((
            ("answer", dice.choice(some), dice.choice((0, 1, 2, -1, (), (0,), (1,), True))), ("answer", dice.choice(some), dice.choice((0, 1, (0,)))),
            ("away", dice.choice(some)), ("piece_in", dice.choice(blocks), place), ("piece_out", dice.choice(blocks), place),
            ("piece_moved", dice.choice(blocks), place, dice.choice((0, 1, 2))), ("change", change), ("back",),
        ))

    def by_hand(self, fold, store, deed, things):
        """Tell what a deed that isn't refused makes of FOLD and FOLD STORE, and what is lost."""
        if deed == "change":
            newer = fold_changed(fold, *things)
            return (newer, *fold_led(fold, newer, store))
        answered = dict((spot, answer) for spot, answer in self.answers_of(fold, store))
        if deed == "answer":
            answered[things[0]] = things[1]
        if deed == "away":
            del answered[things[0]]
        many = {item[0]: len(pieces) for item, pieces in zip([item for item in fold if len(item) == 4], store[1])}
        if deed.startswith("piece"):
            order = list(range(many[things[0]]))
            if deed == "piece_in":
                order.insert(things[1], None)
            elif deed == "piece_out":
                order.pop(things[1])
            else:
                order.insert(things[2], order.pop(things[1]))
            body = [question[0] for item in fold if item[0] == things[0] for question in item[3]]
            kept = {spot: answer for spot, answer in answered.items() if not (isinstance(spot, tuple) and spot[0] in body)}
            for place, elder in enumerate(order):
                kept.update({(name, place): answered[(name, elder)] for name in body if (name, elder) in answered})
            answered, many[things[0]] = kept, len(order)
        outer = tuple((item[0], answered[item[0]]) for item in fold if len(item) == 3 and item[0] in answered)
        blocks = tuple(
            tuple(tuple((name, answered[(name, place)]) for name, kind, wish in item[3] if (name, place) in answered) for place in range(many[item[0]]))
            for item in fold if len(item) == 4
        )
        return fold, (outer, blocks), ()

    def answers_of(self, fold, store):
        """Tell the answers of all SPOTS of QUESTIONS."""
        found = list(store[0])
        for pieces in store[1]:
            found += [((name, place), answer) for place, piece in enumerate(pieces) for name, answer in piece]
        return found

    def check_deed(self, keeper, before, dice):
        """Do any deed, and look at what comes of it; before holds what there is to take back."""
        fold, store = keeper.fold(), keeper.store()
        deed, *things = self.random_deed(dice, keeper)
        was = keeper.shown()
        try:
            told = getattr(keeper, deed)(*things)
        except FoldError as caught:
            self.kept(keeper, store, fold)
            self.assertEqual(isinstance(caught, NoStep), deed == "back" and not before)
            return "refused"
        if deed == "back":
            newer, newest, lost = before.pop() + ((),)
        else:
            before.append((fold, store))
            newer, newest, lost = self.by_hand(fold, store, deed, things)
        self.kept(keeper, newest, newer)
        now = fold_shown(newer, newest)
        expected = (tuple(spot for spot in now if spot not in was), tuple(spot for spot in was if spot not in now))
        self.assertEqual(told, expected + (lost,) if deed == "change" else expected)
        return deed

    def test_behind_any_deeds(self):
        dice = random.Random(84)
        seen = {}
        for turn in range(100):
            fold = random_fold(dice, dice.randint(1, 4))
            store = random_fold_store(dice, fold)
            keeper = Keeper(fold, store)
            before = []
            for deed in range(60):
                word = self.check_deed(keeper, before, dice)
                seen[word] = seen.get(word, 0) + 1
            while before:
                self.kept(keeper, keeper.store(), keeper.fold())
                newer, newest = before.pop()
                keeper.back()
                self.kept(keeper, newest, newer)
            self.kept(keeper, store, fold)
            self.refused(NoStep, {}, keeper.back)
        self.assertTrue(len(seen) == 8 and min(seen.values()) > 20, seen)

    def test_sixty_deeds_taken_back(self):
        keeper = Keeper(FOLD, STORE)
        stores = []
        for turn in range(60):
            stores.append(keeper.store())
            keeper.answer("n", turn % 13 - 3)
        while stores:
            keeper.back()
            self.assertEqual(keeper.store(), stores.pop())
        self.refused(NoStep, {}, keeper.back)

    def test_as_the_unfolded_form(self):
        dice = random.Random(85)
        for turn in range(60):
            fold = random_fold(dice, 3)
            keeper = Keeper(fold, random_fold_store(dice, fold))
            for spot in keeper.opened():
                kind = [item[1] for item in fold if item[0] == spot] or [
                    question[1] for item in fold if len(item) == 4 for question in item[3] if question[0] == spot[0]
                ]
                if spot in keeper.shown():
                    keeper.answer(spot, dice.choice(answers(kind[0])))
            form, store = unfolded(keeper.fold()), flat_store(keeper.fold(), keeper.store())
            flat = [spot if isinstance(spot, str) else f"{spot[0]}{spot[1]}" for spot in keeper.shown()]
            self.assertEqual(tuple(flat), shown(form, store))
            self.assertEqual(len(keeper.opened()), len(opened(form, store)))
            self.assertEqual(len(keeper.aside()), len(aside(form, store)))


if __name__ == "__main__":
    unittest.main()
