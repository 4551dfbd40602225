"""Point [50]: the checker of leasts."""

import random
import unittest

from askfolds.boxes import whole
from askfolds.errors import NoPaper
from askfolds.extremechecker import lets_least
from askfolds.forms import kinds_of
from askfolds.showing import view
from askfolds.views import holds, value
from tests.helpers import (
    BIG, FALSE, ODD_THINGS, TRUE, full_cases, lively_form, lively_sentence, random_term, spoiled, whole_stores
)

LEAF = ("leaf",)
FORM = (("n", ("number", -3, 4), TRUE), ("b", ("one", 3), ("least", (0, (("times", "n", 1),)), 1)))
SENTENCE = ("given", "b")
TERM = (0, (("times", "n", 2), ("of", "b", (5, 3, 9))))
# n is 1 at least where b is given, and the least weight of b is 3.
LEAST = (("n", 1), ("b", 1))
CASES = (("cut", "n", 1), LEAF, LEAF)


class Checker(unittest.TestCase):
    def refused(self, thing, word, number=-1, sentence=SENTENCE, term=TERM, form=FORM):
        with self.assertRaises(NoPaper) as caught:
            lets_least(form, sentence, term, thing)
        self.assertEqual((caught.exception.word, caught.exception.number), (word, number), thing)

    def test_let_by(self):
        self.assertEqual(lets_least(FORM, SENTENCE, TERM, (5, LEAST, CASES)), 5)
        self.assertEqual(lets_least(FORM, TRUE, TERM, (-6, (("n", -3),), CASES)), -6)
        self.assertEqual(lets_least((), TRUE, (7, ()), (7, (), (LEAF,))), 7)
        self.assertEqual(lets_least(FORM, ("is", "b", 2), TERM, (11, (("n", 1), ("b", 2)), (("each", "b"), LEAF, LEAF) + CASES)), 11)
        self.assertEqual(lets_least(FORM, TRUE, (1, (("times", "n", 0),)), (1, (("n", 0),), (LEAF,))), 1)

    def test_shape(self):
        for thing in ODD_THINGS + (
            [5, LEAST, CASES], (5, LEAST), (5, LEAST, CASES, ()), (True, LEAST, CASES), (False, LEAST, CASES), (None, LEAST, CASES),
            ("5", LEAST, CASES), ((5,), LEAST, CASES), ([5], LEAST, CASES), (LEAST, 5, CASES), ("least", LEAST, CASES),
        ):
            self.refused(thing, "shape")

    def test_truths(self):
        # True comes to 1, but it is no NUMBER.
        self.refused((True, (("n", 0),), (LEAF,)), "shape", term=(1, ()), sentence=TRUE)
        self.refused((False, (("n", 0),), (LEAF,)), "shape", term=(0, ()), sentence=TRUE)

    def test_filling(self):
        for filling in ODD_THINGS + (
            (("n", 1),), (("b", 1),), (("n", 0), ("b", 1)), (("b", 1), ("n", 1)), (("n", 1), ("b", 3)), (("n", 5), ("b", 1)), (("n", 1), ("b", 1), ("x", 0)),
            [("n", 1), ("b", 1)], (("n", True), ("b", 1)), (("n", 1), ["b", 1]), (("n", 1), ("n", 1)),
        ):
            self.refused((5, filling, CASES), "filling")
            self.refused((99, filling, None), "filling")
        for filling in spoiled(LEAST):
            self.refused((5, filling, CASES), "filling")
        self.refused((7, (("n", 1),), (LEAF,)), "filling", term=(7, ()), form=())

    def test_holds(self):
        self.refused((-6, (("n", -3),), CASES), "holds")
        self.refused((99, (("n", 0),), None), "holds")
        self.refused((5, LEAST, CASES), "holds", sentence=FALSE)

    def test_number(self):
        for number in (4, 6, 0, -5, BIG, -BIG):
            for cases in (CASES, None, (), (LEAF,)):
                self.refused((number, LEAST, cases), "number")

    def test_what_the_checker_of_cases_refuses(self):
        for cases, word, number in (
            (None, "shape", -1), (list(CASES), "shape", -1), (True, "shape", -1), ((), "few", 0), ((LEAF,), "leaf", 0), (CASES[:1], "few", 1),
            (CASES[:2], "few", 2), (CASES + (LEAF,), "more", 3), (CASES + (("wrong",),), "row", 3), ((("cut", "n", 5),), "box", 0),
            ((("cut", "x", 1), LEAF, LEAF), "box", 0), ((("cut", "n", True), LEAF, LEAF), "row", 0), ((("cut", "n", 2), LEAF, LEAF), "leaf", 1),
            ((("cut", "n", 1), ["leaf"], LEAF), "row", 1),
        ):
            self.refused((5, LEAST, cases), word, number)

    def test_a_number_that_is_not_the_least(self):
        for filling, number in (((("n", 1), ("b", 0)), 7), ((("n", 2), ("b", 1)), 7), ((("n", 4), ("b", 2)), 17)):
            self.refused((number, filling, CASES), "leaf", 2)
            self.refused((number, filling, full_cases(FORM, whole(FORM, ()))), "leaf", self.first_wrong(number))

    def first_wrong(self, number):
        """Tell the first leaf of the full CASES of a WHOLE STORE with b and a lesser value."""
        views = [view(FORM, store) for store in whole_stores(FORM)]
        leaves = [at for at, row in enumerate(full_cases(FORM, whole(FORM, ()))) if row == LEAF]
        return [at for at, one in zip(leaves, views) if holds(one, SENTENCE) and value(one, TERM) < number][0]

    def test_by_random_forms(self):
        dice = random.Random(50)
        seen = {True: 0, False: 0}
        for turn in range(300):
            form = lively_form(dice, dice.randint(1, 3))
            sentence, term = lively_sentence(dice, kinds_of(form), 2), random_term(dice, kinds_of(form), 2)
            views = [view(form, store) for store in whole_stores(form)]
            views = [one for one in views if holds(one, sentence)]
            cases = full_cases(form, whole(form, ()))
            for filling in views[:1] + views[-1:]:
                number = value(filling, term)
                so = number == min(value(one, term) for one in views)
                seen[so] += 1
                if so:
                    self.assertEqual(lets_least(form, sentence, term, (number, filling, cases)), number)
                else:
                    with self.assertRaises(NoPaper) as caught:
                        lets_least(form, sentence, term, (number, filling, cases))
                    self.assertEqual(caught.exception.word, "leaf")
        self.assertTrue(min(seen.values()) > 40, seen)

    def test_names_of_the_arguments(self):
        self.assertEqual(lets_least(form=(), sentence=TRUE, term=(0, ()), thing=(0, (), (LEAF,))), 0)


if __name__ == "__main__":
    unittest.main()
