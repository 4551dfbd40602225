"""Points [59] to [61]: the checker of alike cases."""

import random
import unittest

from askfolds.alikechecker import lets_alike
from askfolds.boxes import whole
from askfolds.errors import NoOrder, NoPaper
from askfolds.views import value
from tests.helpers import BIG, FALSE, ODD_THINGS, TRUE, full_cases, lively_form, random_term, view_of, whole_stores

LEAF = ("leaf",)
AGED = ("least", (0, (("times", "n", 1),)), 18)
FORM = (("n", ("number", 0, 99), TRUE), ("b", ("one", 3), AGED), ("s", ("some", 2), TRUE))
# The same by another wish, and with its QUESTIONS in another order.
YOUNG = ("not", ("least", (0, (("times", "n", -2),)), -35))
OTHER = (("s", ("some", 2), TRUE), ("n", ("number", 0, 99), TRUE), ("b", ("one", 3), YOUNG))
TERM = (1, (("of", "b", (2, 5, 2)), ("times", "n", 3), ("of", "s", (0, 7))))
ANOTHER = (0, (("times", "n", 1), ("where", TRUE, 1), ("of", "b", (2, 5, 2, 9)), ("where", ("has", "s", 1), 7), ("times", "n", 2)))
CASES = (("cut", "n", 18), ("with", "s", 1), LEAF, LEAF, ("with", "s", 1), LEAF, LEAF)


class Alike(unittest.TestCase):
    def test_wishes_and_orders_otherwise(self):
        self.assertIs(lets_alike(FORM, TERM, OTHER, ANOTHER, CASES), True)
        self.assertIs(lets_alike(OTHER, ANOTHER, FORM, TERM, CASES), True)
        self.assertIs(lets_alike(FORM, TERM, OTHER, TERM, (("cut", "n", 18), LEAF, LEAF)), True)
        self.assertIs(lets_alike((), (3, ()), (), (1, (("where", TRUE, 2),)), (LEAF,)), True)

    def test_terms_with_a_part_more(self):
        for part in (("where", FALSE, 5), ("where", AGED, 0), ("times", "n", 0), ("of", "b", (0, 0)), ("of", "s", ())):
            more = (TERM[0], TERM[1] + (part,))
            self.assertIs(lets_alike(FORM, TERM, FORM, more, (("cut", "n", 18), LEAF, LEAF)), True)
        for part in (("where", TRUE, 1), ("times", "n", 1), ("of", "s", (0, 1)), ("where", AGED, 1), ("of", "b", (0, 0, 1))):
            with self.assertRaises(NoPaper) as caught:
                lets_alike(FORM, TERM, FORM, (TERM[0], TERM[1] + (part,)), (("cut", "n", 18), LEAF, LEAF))
            self.assertEqual(caught.exception.word, "leaf")

    def test_the_states_are_those_of_each_form(self):
        shows = (("n", ("number", 0, 99), TRUE), ("b", ("one", 3), TRUE))
        hides = (("n", ("number", 0, 99), TRUE), ("b", ("one", 3), FALSE))
        term = (0, (("of", "b", (5, 5, 5)),))
        self.assertIs(lets_alike(shows, (5, ()), shows, term, (LEAF,)), True)
        self.assertIs(lets_alike(hides, (0, ()), hides, term, (LEAF,)), True)
        self.assertIs(lets_alike(hides, (5, (("of", "b", (1,)),)), shows, term, (LEAF,)), True)
        for one, other in ((shows, hides), (hides, shows)):
            with self.assertRaises(NoPaper):
                lets_alike(one, term, other, term, (LEAF,))

    def test_names_of_the_arguments(self):
        self.assertIs(lets_alike(one=(), term=(1, ()), other=(), another=(1, ()), thing=(LEAF,)), True)


class Kinds(unittest.TestCase):
    def refused(self, one, other, thing):
        with self.assertRaises(NoOrder) as caught:
            lets_alike(one, (0, ()), other, (0, ()), thing)
        self.assertEqual(caught.exception.word, "kinds")

    def test_ahead_of_all_else(self):
        for other in (
            (), FORM[:2], FORM + (("x", ("one", 1), FALSE),), (("n", ("number", 0, 98), TRUE),) + FORM[1:],
            (("m", ("number", 0, 99), TRUE), ("b", ("one", 3), TRUE), FORM[2]), (FORM[0], FORM[1], ("s", ("one", 2), TRUE)),
        ):
            for thing in ODD_THINGS + ((LEAF,), [LEAF], CASES):
                self.refused(FORM, other, thing)
                self.refused(other, FORM, thing)


class Refused(unittest.TestCase):
    def refused(self, thing, word, number, term=TERM, another=ANOTHER):
        with self.assertRaises(NoPaper) as caught:
            lets_alike(FORM, term, OTHER, another, thing)
        self.assertEqual((caught.exception.word, caught.exception.number), (word, number), thing)

    def test_shape(self):
        for thing in (None, True, 0, "leaf", [], list(CASES), BIG):
            self.refused(thing, "shape", -1)

    def test_row(self):
        for row in ((), "leaf", ["leaf"], ("leaf", 0), ("each", "b", 0), ("cut", "n", True), ("cut", "N", 1), ("with", "s"), None):
            self.refused((row,), "row", 0)
            self.refused(CASES[:3] + (row,), "row", 3)
            self.refused(CASES + (row,), "row", 7)

    def test_more(self):
        for row in (LEAF, ("cut", "n", 3), ("each", "x")):
            self.refused(CASES + (row,), "more", 7)

    def test_box(self):
        for row in (("cut", "x", 1), ("each", "n"), ("with", "s", 2), ("cut", "n", 0), ("cut", "n", 100), ("cut", "b", 1)):
            self.refused((row,), "box", 0)
            self.refused(CASES[:1] + (row,), "box", 1)
        self.refused((("cut", "n", 18), ("cut", "n", 18)), "box", 1)

    def test_leaf(self):
        self.refused((LEAF,), "leaf", 0)
        self.refused(CASES[:1] + (LEAF,), "leaf", 1)
        self.refused(CASES[:4] + (LEAF,), "leaf", 4)
        # Settled both, but not the same; then the one alone, then the other alone is settled.
        self.refused((LEAF,), "leaf", 0, term=(1, ()), another=(2, ()))
        self.refused((LEAF,), "leaf", 0, term=(0, ()), another=(0, (("of", "b", (1,)),)))
        self.refused((LEAF,), "leaf", 0, term=(0, (("of", "b", (1,)),)), another=(0, ()))
        # Neither of both is settled: None is not told the same as None.
        self.refused((LEAF,), "leaf", 0, term=(0, (("of", "b", (1,)),)), another=(0, (("of", "b", (1,)),)))

    def test_few(self):
        self.refused((), "few", 0)
        for many in (1, 2, 3, 4, 5, 6):
            self.refused(CASES[:many], "few", many)

    def test_the_first_of_two_faults(self):
        self.refused((LEAF, ("wrong",)), "leaf", 0)
        self.refused((("each", "x"), ("wrong",)), "box", 0)
        self.refused(CASES[:1] + (("wrong",), LEAF), "row", 1)
        self.refused(CASES + (LEAF, ("wrong",)), "more", 7)


class Promise(unittest.TestCase):
    def test_full_cases_are_let_by_just_where_both_come_to_the_same(self):
        dice = random.Random(61)
        seen = {True: 0, False: 0}
        for turn in range(300):
            one = lively_form(dice, dice.randint(1, 3))
            other = tuple((name, kind, dice.choice((wish, ("not", ("not", wish)), TRUE))) for name, kind, wish in one)
            if dice.random() < 0.5 and all(question[2] == TRUE for question in other):
                other = other[::-1]
            kinds = [question[:2] for question in one]
            term = random_term(dice, kinds, 2)
            another = dice.choice((random_term(dice, kinds, 2), (term[0], term[1][::-1]), (term[0], term[1] + (("where", FALSE, 3),))))
            same = all(value(view_of(one, store), term) == value(view_of(other, store), another) for store in whole_stores(one))
            cases = full_cases(one, whole(one, ()))
            seen[same] += 1
            if same:
                self.assertIs(lets_alike(one, term, other, another, cases), True)
            else:
                with self.assertRaises(NoPaper) as caught:
                    lets_alike(one, term, other, another, cases)
                self.assertEqual(caught.exception.word, "leaf")
                self.assertEqual(cases[caught.exception.number], LEAF)
        self.assertTrue(seen[True] > 50 and seen[False] > 50)


if __name__ == "__main__":
    unittest.main()
