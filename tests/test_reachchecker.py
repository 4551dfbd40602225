"""Points [46] and [47]: the checker of reach papers."""

import random
import unittest

from askfolds.boxes import whole
from askfolds.errors import NoPaper
from askfolds.forms import kinds_of
from askfolds.reachchecker import lets_reach
from askfolds.showing import view
from askfolds.views import holds
from tests.helpers import BIG, FALSE, ODD_THINGS, TRUE, full_cases, lively_form, lively_sentence, spoiled, whole_stores

LEAF = ("leaf",)
FORM = (
    ("n", ("number", -3, 4), TRUE), ("b", ("one", 3), ("least", (0, (("times", "n", 1),)), 1)), ("s", ("some", 2), ("is", "b", 0)),
)
SENTENCE = ("given", "b")
# With b there are two pairs at least: where n is 1 or more its state is yes, else the SENTENCE's word is no.
FILLING = (("n", 1), ("b", 1))
CASES = (("cut", "n", 1), LEAF, LEAF)
NO_SUCH = ("all", (("given", "s"), ("is", "b", 1)))
NEVER_CASES = (("each", "b"), LEAF, LEAF, LEAF)


class Refusals(unittest.TestCase):
    def refused(self, thing, word, number=-1, sentence=SENTENCE, form=FORM):
        with self.assertRaises(NoPaper) as caught:
            lets_reach(form, sentence, thing)
        self.assertEqual((caught.exception.word, caught.exception.number), (word, number), thing)


class Checker(Refusals):
    def test_let_by(self):
        self.assertEqual(lets_reach(FORM, SENTENCE, ("least", FILLING, CASES)), "least")
        self.assertEqual(lets_reach(FORM, SENTENCE, ("least", (("n", 4), ("b", 2)), CASES)), "least")
        self.assertEqual(lets_reach(FORM, TRUE, ("least", (("n", 0),), (LEAF,))), "least")
        self.assertEqual(lets_reach(FORM, NO_SUCH, ("never", NEVER_CASES)), "never")
        self.assertEqual(lets_reach(FORM, FALSE, ("never", (LEAF,))), "never")
        self.assertEqual(lets_reach((), TRUE, ("least", (), (LEAF,))), "least")
        self.assertEqual(lets_reach((), FALSE, ("never", (LEAF,))), "never")

    def test_shape(self):
        for thing in ODD_THINGS + (
            ["least", FILLING, CASES], ["never", CASES], ("least", FILLING), ("least", CASES), ("never", FILLING, CASES), ("never",), ("least",),
            ("least", FILLING, CASES, ()), ("never", CASES, ()), ("Least", FILLING, CASES), ("Never", CASES), ("", CASES), (None, FILLING, CASES),
            (True, CASES), (["least"], FILLING, CASES), (("never",), CASES), ("cases", CASES), ("against", FILLING), (FILLING, "least", CASES),
            (CASES, "never"), "never", "least",
        ):
            self.refused(thing, "shape")
            self.refused(thing, "shape", sentence=FALSE)

    def test_filling(self):
        for filling in ODD_THINGS + (
            (("n", 1),), (("b", 1),), (("n", 0), ("b", 1)), (("b", 1), ("n", 1)), (("n", 1), ("b", 3)), (("n", 5), ("b", 1)), (("n", 1), ("b", 0)),
            (("n", 1), ("b", 1), ("s", ())), (("n", 1), ("b", 1), ("x", 0)), [("n", 1), ("b", 1)], (("n", True), ("b", 1)), (("n", 1), ["b", 1]),
            (("n", 1), ("n", 1)), (("n", BIG),),
        ):
            self.refused(("least", filling, CASES), "filling")
        for filling in spoiled(FILLING):
            self.refused(("least", filling, CASES), "filling")
        self.refused(("least", (("n", 1),), (LEAF,)), "filling", form=(), sentence=TRUE)

    def test_holds(self):
        self.refused(("least", (("n", 0),), CASES), "holds")
        self.refused(("least", FILLING, CASES), "holds", sentence=FALSE)
        self.refused(("least", FILLING, CASES), "holds", sentence=("is", "b", 2))
        self.refused(("least", (), (LEAF,)), "holds", form=(), sentence=FALSE)

    def test_the_first_of_two_faults(self):
        for cases in (None, (), [], (("wrong",),), (LEAF, LEAF)):
            self.refused(("least", (("n", 1),), cases), "filling", sentence=FALSE)
            self.refused(("least", (("n", 0),), cases), "holds")
            self.refused(["least", (("n", 0),), cases], "shape")
            self.refused(("never", (("n", 0),), cases), "shape")

    def test_what_the_checker_of_cases_refuses(self):
        for cases, word, number in (
            (None, "shape", -1), (list(CASES), "shape", -1), (True, "shape", -1), ("leaf", "shape", -1), ((), "few", 0), ((LEAF,), "leaf", 0),
            (CASES[:1], "few", 1), (CASES[:2], "few", 2), (CASES + (LEAF,), "more", 3), (CASES + (("wrong",),), "row", 3), ((("cut", "n", 5),), "box", 0),
            ((("cut", "x", 1), LEAF, LEAF), "box", 0), ((("cut", "n", True), LEAF, LEAF), "row", 0), ((("cut", "n", 2), LEAF, LEAF), "leaf", 1),
            ((("cut", "n", 1), ["leaf"], LEAF), "row", 1),
        ):
            self.refused(("least", FILLING, cases), word, number)
        for cases, word, number in (
            (None, "shape", -1), (list(NEVER_CASES), "shape", -1), ((), "few", 0), ((LEAF,), "leaf", 0), (NEVER_CASES[:3], "few", 3),
            (NEVER_CASES + (LEAF,), "more", 4), ((("each", "x"),), "box", 0), ((("each", "b"), LEAF, 7), "row", 2),
            ((("cut", "n", 0), LEAF, LEAF), "leaf", 2),
        ):
            self.refused(("never", cases), word, number, sentence=NO_SUCH)

    def test_a_filling_that_is_not_the_least(self):
        longer = (("n", 2), ("b", 0), ("s", (1,)))
        self.refused(("least", longer, CASES), "leaf", 2)
        self.refused(("least", longer, (("cut", "n", 1), LEAF, ("each", "b"), LEAF, LEAF, LEAF)), "leaf", 4)
        self.assertEqual(lets_reach(FORM, ("given", "s"), ("least", longer, (("cut", "n", 1), LEAF, ("each", "b"), LEAF, LEAF, LEAF))), "least")

    def test_never_of_what_is_reached(self):
        self.refused(("never", CASES), "leaf", 2)
        self.refused(("never", (("cut", "n", 1), LEAF, ("each", "b"), LEAF, LEAF, LEAF)), "leaf", 3)

    def test_names_of_the_arguments(self):
        self.assertEqual(lets_reach(form=(), sentence=TRUE, thing=("least", (), (LEAF,))), "least")


class WhoeverWroteIt(Refusals):
    def test_by_random_forms(self):
        dice = random.Random(47)
        seen = {"least": 0, "never": 0, "longer": 0}
        for turn in range(400):
            form = lively_form(dice, dice.randint(2, 4))
            sentence = lively_sentence(dice, kinds_of(form), 2)
            if turn % 4 == 0:
                sentence = ("all", (sentence, ("not", sentence)))
            views = [one for one in [view(form, store) for store in whole_stores(form)] if holds(one, sentence)]
            cases = full_cases(form, whole(form, ()))
            if not views:
                seen["never"] += 1
                self.assertEqual(lets_reach(form, sentence, ("never", cases)), "never")
                self.refused(("least", view(form, whole_stores(form)[0]), cases), "holds", sentence=sentence, form=form)
                continue
            with self.assertRaises(NoPaper) as caught:
                lets_reach(form, sentence, ("never", cases))
            self.assertEqual(caught.exception.word, "leaf")
            fewest = min(len(one) for one in views)
            for filling in views:
                if len(filling) == fewest:
                    seen["least"] += 1
                    self.assertEqual(lets_reach(form, sentence, ("least", filling, cases)), "least")
                else:
                    seen["longer"] += 1
                    with self.assertRaises(NoPaper) as caught:
                        lets_reach(form, sentence, ("least", filling, cases))
                    self.assertEqual(caught.exception.word, "leaf")
        self.assertTrue(min(seen.values()) > 60, seen)


if __name__ == "__main__":
    unittest.main()
