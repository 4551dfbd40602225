"""Points [80] and [81]: folds changed, and fold stores led."""

import random
import unittest

from askfolds.errors import NoChange
from askfolds.foldchanges import fold_changed, fold_led
from askfolds.folds import is_fold, is_fold_store, spots
from askfolds.foldviews import fold_shown
from askfolds.kinds import is_answer
from tests.helpers import BIG, FALSE, ODD_THINGS, TRUE, random_fold, random_fold_store

N = ("n", ("number", -3, 9), TRUE)
AGE = ("age", ("number", 0, 99), ("given", "n"))
JOB = ("job", ("one", 3), ("given", "age"))
TOY = ("toy", ("some", 3), TRUE)
KID = ("kid", 3, ("given", "n"), (AGE, JOB, TOY))
PET = ("pet", 2, TRUE, ())
TAX = ("tax", ("one", 2), ("least", (0, (("pieces", "kid", (0, (("times", "age", 1),))),)), 40))
FOLD = (N, KID, PET, TAX)
X = ("x", ("one", 2), TRUE)


def with_body(*body):
    """The FOLD with another body."""
    return (N, KID[:3] + (body,), PET, TAX)


class Changed(unittest.TestCase):
    def check(self, thing, told, fold=FOLD):
        self.assertTrue(is_fold(fold))
        self.assertEqual(fold_changed(fold, thing), told)

    def test_put_in_the_fold(self):
        self.check(("put", "", 0, X), (X,) + FOLD)
        self.check(("put", "", 2, X), (N, KID, X, PET, TAX))
        self.check(("put", "", 4, X), FOLD + (X,))
        self.check(("put", "", 0, X), (X,), fold=())
        block = ("y", 4, ("given", "kid"), (X,))
        self.check(("put", "", 3, block), (N, KID, PET, block, TAX))

    def test_put_in_a_body(self):
        self.check(("put", "kid", 0, X), with_body(X, AGE, JOB, TOY))
        self.check(("put", "kid", 3, X), with_body(AGE, JOB, TOY, X))
        later = ("x", ("one", 2), ("all", (("is", "job", 1), ("given", "kid"), ("given", "n"))))
        self.check(("put", "kid", 2, later), with_body(AGE, JOB, later, TOY))
        self.check(("put", "pet", 0, X), (N, KID, ("pet", 2, TRUE, (X,)), TAX))

    def test_take(self):
        self.check(("take", "tax"), FOLD[:3])
        self.check(("take", "pet"), (N, KID, TAX))
        self.check(("take", "job"), with_body(AGE, TOY))
        self.check(("take", "n"), (), fold=(N,))

    def test_move(self):
        self.check(("move", "pet", 0), (PET, N, KID, TAX))
        self.check(("move", "pet", 3), (N, KID, TAX, PET))
        self.check(("move", "tax", 2), (N, KID, TAX, PET))
        self.check(("move", "toy", 0), with_body(TOY, AGE, JOB))
        self.check(("move", "toy", 1), with_body(AGE, TOY, JOB))
        self.check(("move", "toy", 2), FOLD)
        self.check(("move", "n", 0), FOLD)

    def test_kind_wish_and_most(self):
        self.check(("kind", "n", ("some", 4)), (("n", ("some", 4), TRUE),) + FOLD[1:])
        self.check(("kind", "toy", ("number", -BIG, BIG)), with_body(AGE, JOB, ("toy", ("number", -BIG, BIG), TRUE)))
        self.check(("wish", "n", FALSE), (("n", N[1], FALSE),) + FOLD[1:])
        self.check(("wish", "kid", TRUE), (N, ("kid", 3, TRUE, KID[3]), PET, TAX))
        self.check(("wish", "age", ("given", "kid")), with_body(("age", AGE[1], ("given", "kid")), JOB, TOY))
        self.check(("wish", "tax", ("given", "pet")), FOLD[:3] + (("tax", TAX[1], ("given", "pet")),))
        self.check(("most", "kid", 1), (N, ("kid", 1) + KID[2:], PET, TAX))
        self.check(("most", "pet", BIG), (N, KID, ("pet", BIG, TRUE, ()), TAX))

    def test_what_turns_nothing(self):
        for thing in (
            ("kind", "n", N[1]), ("wish", "toy", TRUE), ("wish", "tax", TAX[2]), ("most", "kid", 3), ("move", "kid", 1), ("move", "job", 1),
        ):
            self.check(thing, FOLD)

    def test_names_of_the_arguments(self):
        self.assertEqual(fold_changed(fold=FOLD, thing=("take", "tax")), FOLD[:3])
        self.assertEqual(fold_led(elder=(), newer=(), store=((), ())), (((), ()), ()))


class Refused(unittest.TestCase):
    def refused(self, thing, word, fold=FOLD):
        with self.assertRaises(NoChange) as caught:
            fold_changed(fold, thing)
        self.assertEqual(caught.exception.word, word, thing)

    def test_shape(self):
        for thing in ODD_THINGS + (
            ("put",), ("take",), ("turn", "n"), ("", "n"), (["take"], "n"), ("Take", "n"), (True, "n"), ("take", "n", 0),
            ("put", "", 0), ("put", 0, X), ("put", "", 0, X, X), ("put", None, 0, X), ("put", ("kid",), 0, X), ("put", ["kid"], 0, X),
            ("put", True, 0, X), ("put", "", True, X), ("put", "", False, X), ("put", "", None, X), ("put", "", "0", X), ("put", "kid", (0,), X),
            ["put", "", 0, X], ["take", "n"], ("take", None), ("take", True), ("take", ("n",)), ("take", ["n"]), ("take", 0),
            ("move", "n"), ("move", "n", True), ("move", "n", None), ("move", "n", "0"), ("move", 0, "n"), ("move", ["n"], 0),
            ("move", "n", 0, 0), ("kind", "n"), ("kind", "n", ("one", 2), 0), ("kind", None, ("one", 2)), ("kind", ("n",), ("one", 2)),
            ("wish", "n"), ("wish", 0, TRUE), ("wish", ["n"], TRUE), ("wish", "n", TRUE, TRUE), ("most", "kid"), ("most", "kid", True),
            ("most", "kid", None), ("most", "kid", (2,)), ("most", 2, "kid"), ("most", None, 2), ("most", "kid", 2, 2), ("most", "kid", "2"),
        ):
            self.refused(thing, "shape")

    def test_names(self):
        for thing in (
            ("put", "x", 0, X), ("put", "n", 0, X), ("put", "age", 0, X), ("put", " ", 0, X), ("put", "KID", -1, X), ("put", "tax", 9, None),
            ("take", "x"), ("take", ""), ("take", "N"), ("take", "kid "), ("move", "x", 0), ("move", "", 0), ("move", "x", -1), ("move", "x", BIG),
            ("kind", "x", ("one", 2)), ("kind", "", ("one", 2)), ("kind", "kid", ("one", 2)), ("kind", "pet", None), ("kind", "kid", ("number", 0, 3)),
            ("wish", "x", TRUE), ("wish", "", None), ("most", "x", 2), ("most", "", 2), ("most", "n", 2), ("most", "age", 2), ("most", "tax", 0),
        ):
            self.refused(thing, "name")
        for thing in (("take", "n"), ("move", "n", 0), ("kind", "n", ("one", 2)), ("wish", "n", TRUE), ("most", "n", 1), ("put", "n", 0, X)):
            self.refused(thing, "name", fold=())

    def test_places(self):
        for place in (-1, 5, BIG, -BIG):
            for thing in (X, None, N):
                self.refused(("put", "", place, thing), "place")
        for place in (-1, 4, BIG):
            self.refused(("put", "kid", place, X), "place")
            self.refused(("put", "kid", place, KID), "place")
            self.refused(("move", "n", place), "place")
        for place in (-1, 3, BIG):
            self.refused(("move", "toy", place), "place")
        for place in (-1, 1):
            self.refused(("put", "pet", place, X), "place")
            self.refused(("put", "", place, X), "place", fold=())

    def test_folds(self):
        for thing in (
            ("put", "", 0, N), ("put", "", 0, AGE), ("put", "", 0, ("kid", ("one", 2), TRUE)), ("put", "", 0, ("x", ("one", 2), ("given", "n"))),
            ("put", "", 0, ("x", 0, TRUE, ())), ("put", "", 0, ("x", 2, TRUE, (N,))), ("put", "", 0, ("x", 2, TRUE, (("x", ("one", 2), TRUE),))),
            ("put", "", 0, ("xa", ["one", 2], TRUE)), ("put", "", 0, ("x1", ("one", 2), TRUE)), ("put", "", 0, ("abcdefgh", ("one", 2), TRUE)),
            ("put", "kid", 0, ("x", 2, TRUE, ())), ("put", "kid", 0, N), ("put", "kid", 0, AGE), ("put", "kid", 0, ("kid", ("one", 2), TRUE)),
            ("put", "kid", 0, ("x", ("one", 2), ("given", "age"))), ("put", "kid", 3, ("x", ("one", 2), ("given", "tax"))),
            ("put", "kid", 3, ("x", ("one", 2), TAX[2])), ("put", "kid", 0, list(X)),
            ("take", "n"), ("take", "kid"), ("take", "age"), ("move", "n", 1), ("move", "n", 3), ("move", "kid", 0), ("move", "kid", 3),
            ("move", "tax", 0), ("move", "age", 1), ("move", "job", 0), ("kind", "age", ("one", 2)), ("kind", "n", ("one", 0)),
            ("kind", "n", ["one", 2]), ("kind", "n", True), ("kind", "toy", 2), ("kind", "toy", ("one", True)),
            ("wish", "n", ("given", "n")), ("wish", "kid", ("given", "kid")), ("wish", "kid", ("given", "age")), ("wish", "age", ("given", "job")),
            ("wish", "toy", TAX[2]), ("wish", "kid", TAX[2]), ("most", "kid", 0), ("most", "kid", -1), ("most", "pet", -BIG),
        ):
            self.refused(thing, "fold")
        for thing in ODD_THINGS:
            self.refused(("put", "", 0, thing), "fold")
            self.refused(("put", "kid", 0, thing), "fold")
            self.refused(("kind", "n", thing), "fold")
            self.refused(("kind", "age", thing), "fold")
            self.refused(("wish", "n", thing), "fold")
            self.refused(("wish", "kid", thing), "fold")
            self.refused(("wish", "age", thing), "fold")


STORE = (
    (("n", 1), ("tax", 1)),
    (((("age", 7), ("job", 2), ("toy", (0, 2))), (), (("toy", ()),)), ((), ())),
)


class Led(unittest.TestCase):
    def check(self, newer, store, *lost, elder=FOLD, given=STORE):
        self.assertTrue(is_fold(elder) and is_fold(newer) and is_fold_store(elder, given) and is_fold_store(newer, store))
        self.assertEqual(fold_led(elder, newer, given), (store, lost))

    def test_into_the_same_fold(self):
        self.check(FOLD, STORE)

    def test_into_nothing(self):
        self.check(
            (), ((), ()), ("n", 1, "gone"), (("age", 0), 7, "gone"), (("job", 0), 2, "gone"), (("toy", 0), (0, 2), "gone"),
            (("toy", 2), (), "gone"), ("tax", 1, "gone"),
        )
        self.check(FOLD, ((), ((), ())), elder=(), given=((), ()))

    def test_pieces_beyond_the_most(self):
        for most, pieces in ((1, STORE[1][0][:1]), (2, STORE[1][0][:2])):
            newer = (N, ("kid", most) + KID[2:], PET, TAX)
            self.check(newer, (STORE[0], (pieces, ((), ()))), (("toy", 2), (), "piece"))
        self.check((N, ("kid", 4) + KID[2:], PET, TAX), STORE)
        self.check((N, KID, ("pet", 1, TRUE, ()), TAX), (STORE[0], (STORE[1][0], ((),))))

    def test_kinds(self):
        self.check(with_body(AGE, ("job", ("one", 2), TRUE), TOY), (
            STORE[0], (((("age", 7), ("toy", (0, 2))), (), (("toy", ()),)), ((), ()))
        ), (("job", 0), 2, "kind"))
        self.check(with_body(AGE, JOB, ("toy", ("some", 2), TRUE)), (
            STORE[0], (((("age", 7), ("job", 2)), (), (("toy", ()),)), ((), ()))
        ), (("toy", 0), (0, 2), "kind"))
        # An answer goes along where its NUMBER is one of another sort, too.
        self.check((("n", ("one", 2), TRUE),) + FOLD[1:], STORE)
        self.check((("n", ("some", 2), TRUE),) + FOLD[1:], ((("tax", 1),), STORE[1]), ("n", 1, "kind"))

    def test_the_first_word_that_is_so(self):
        narrow = ("toy", ("one", 1), TRUE)
        newer = (N, ("kid", 1, TRUE, (AGE, narrow)), PET, TAX)
        self.check(newer, (STORE[0], (((("age", 7),),), ((), ()))),
                   (("job", 0), 2, "gone"), (("toy", 0), (0, 2), "kind"), (("toy", 2), (), "piece"))
        newer = (N, ("kid", 1, TRUE, (AGE,)), PET, TAX)
        self.check(newer, (STORE[0], (((("age", 7),),), ((), ()))),
                   (("job", 0), 2, "gone"), (("toy", 0), (0, 2), "gone"), (("toy", 2), (), "gone"))

    def test_in_the_newer_order(self):
        free = ("age", AGE[1], TRUE), ("job", JOB[1], TRUE)
        newer = (TAX[:2] + (TRUE,), PET, N, KID[:3] + ((TOY, free[1], free[0]),))
        pieces = (("toy", (0, 2)), ("job", 2), ("age", 7)), (), (("toy", ()),)
        self.check(newer, ((("tax", 1), ("n", 1)), (((), ()), pieces)))

    def test_questions_elsewhere_are_gone(self):
        gone = (("age", 0), 7, "gone"), (("job", 0), 2, "gone"), (("toy", 0), (0, 2), "gone"), (("toy", 2), (), "gone")
        outer = tuple(question[:2] + (TRUE,) for question in (AGE, JOB, TOY))
        self.check((N, KID[:3] + ((),), PET, TAX[:2] + (TRUE,)) + outer, (STORE[0], (((), (), ()), ((), ()))), *gone)
        self.check((N, KID[:3] + ((),), ("pet", 2, TRUE, outer), TAX[:2] + (TRUE,)), (STORE[0], (((), (), ()), ((), ()))), *gone)
        self.check((("y", 3, TRUE, (N,)), KID[:2] + (TRUE, (TOY,))),
                   ((), ((), ((("toy", (0, 2)),), (), (("toy", ()),)))), ("n", 1, "gone"), *gone[:2], ("tax", 1, "gone"))

    def test_a_block_where_a_question_was(self):
        self.check((("n", 3, TRUE, ()),), ((), ((),)), ("n", 1, "gone"), elder=(N,), given=((("n", 1),), ()))
        self.check((("kid", ("number", 0, 3), TRUE),), ((), ()), (("x", 1), 1, "gone"),
                   elder=(("kid", 3, TRUE, (X,)),), given=((), (((), (("x", 1),), ()),)))

    def test_blocks_that_are_new(self):
        newer = (("new", 3, TRUE, ()),) + FOLD
        self.check(newer, (STORE[0], ((),) + STORE[1]))

    def test_what_is_aside_is_led(self):
        hidden = (("n", N[1], FALSE),) + FOLD[1:]
        self.check(hidden, STORE)
        self.check(FOLD, STORE, elder=hidden)

    def test_random_folds(self):
        dice = random.Random(81)
        words = set()
        for turn in range(600):
            elder, newer = random_fold(dice, dice.randint(1, 4)), random_fold(dice, dice.randint(1, 4))
            store = random_fold_store(dice, elder)
            self.assertEqual(fold_led(elder, elder, store), (store, ()))
            told, lost = fold_led(elder, newer, store)
            self.assertTrue(is_fold_store(newer, told))
            before, after = answers_by_spot(elder, store), answers_by_spot(newer, told)
            homes, others = homes_of(elder), homes_of(newer)
            mosts = {item[0]: item[1] for item in newer if len(item) == 4}
            told_lost = []
            for spot in spots(elder, store):
                if spot not in before:
                    continue
                name, place = spot if isinstance(spot, tuple) else (spot, 0)
                word = ""
                if name not in others or others[name][0] != homes[name][0]:
                    word = "gone"
                elif homes[name][0] and place >= mosts[homes[name][0]]:
                    word = "piece"
                elif not is_answer(others[name][1], before[spot]):
                    word = "kind"
                words.add(word)
                if word:
                    told_lost.append((spot, before[spot], word))
                else:
                    self.assertEqual(after.pop(spot), before[spot])
            self.assertEqual((after, lost), ({}, tuple(told_lost)))
            self.assertEqual(fold_shown(newer, told), fold_shown(newer, fold_led(newer, newer, told)[0]))
        self.assertEqual(words, {"", "gone", "piece", "kind"})


def homes_of(fold):
    """Tell the BLOCK, "" of none, and the KIND of each QUESTION."""
    found = {item[0]: ("", item[1]) for item in fold if len(item) == 3}
    for item in fold:
        if len(item) == 4:
            found.update({question[0]: (item[0], question[1]) for question in item[3]})
    return found


def answers_by_spot(fold, store):
    """Tell the answers of QUESTIONS by their SPOTS."""
    found = dict(store[0])
    for pieces in store[1]:
        found.update({(name, at): answer for at, piece in enumerate(pieces) for name, answer in piece})
    return found


if __name__ == "__main__":
    unittest.main()
