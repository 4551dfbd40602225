"""Point [62]: two forms with a term each, alike or parted."""

import random
import unittest

from askfolds.alikechecker import lets_alike
from askfolds.comparing import alike
from askfolds.errors import NoOrder
from askfolds.kinds import size
from askfolds.showing import is_store, sorted_store, view
from askfolds.views import value
from tests.helpers import (
    FALSE, TRUE, WIDE, Bars, barred_kinds, lively_form, nudged, random_term, random_wide_form, some_stores, whole_stores
)

AGED = ("least", (0, (("times", "n", 1),)), 18)
FORM = (("n", ("number", -1000, 1000), TRUE), ("b", ("one", 3), AGED), ("s", ("some", 2), TRUE))
YOUNG = ("not", ("least", (0, (("times", "n", -2),)), -35))
OTHER = (("s", ("some", 2), TRUE), ("n", ("number", -1000, 1000), TRUE), ("b", ("one", 3), YOUNG))
TERM = (1, (("of", "b", (2, 5, 2)), ("times", "n", 3), ("of", "s", (0, 7))))
ANOTHER = (0, (("times", "n", 1), ("where", TRUE, 1), ("of", "b", (2, 5, 2, 9)), ("where", ("has", "s", 1), 7), ("times", "n", 2)))


class Papers(unittest.TestCase):
    def told(self, one, term, other, another):
        """Ask, look at the paper that is told, and tell its word."""
        word, thing = alike(one, term, other, another)
        if word == "alike":
            self.assertIs(lets_alike(one, term, other, another, thing), True)
            return word
        self.assertEqual(word, "parted")
        self.assertTrue(is_store(one, thing) and len(thing) == len(one))
        unlike = value(view(one, thing), term), value(view(other, sorted_store(other, thing)), another)
        self.assertNotEqual(*unlike)
        return word


class Comparing(Papers):
    def test_wishes_and_orders_otherwise(self):
        self.assertEqual(self.told(FORM, TERM, OTHER, ANOTHER), "alike")
        self.assertEqual(self.told(OTHER, ANOTHER, FORM, TERM), "alike")
        self.assertEqual(self.told((), (3, ()), (), (1, (("where", TRUE, 2),))), "alike")
        self.assertEqual(self.told((), (3, ()), (), (1, ())), "parted")

    def test_a_bar_one_off(self):
        for wish, told in (
            (("least", (0, (("times", "n", 1),)), 17), "parted"), (("least", (0, (("times", "n", 1),)), 19), "parted"),
            (("least", (-1, (("times", "n", 1),)), 17), "alike"), (("least", (0, (("times", "n", 3),)), 52), "alike"),
            (("least", (0, (("times", "n", 3),)), 51), "parted"), (("least", (0, (("times", "n", 3),)), 54), "alike"),
            (("least", (0, (("times", "n", 3),)), 55), "parted"), (("not", ("least", (0, (("times", "n", -1),)), -17)), "alike"),
            (("not", ("least", (0, (("times", "n", -1),)), -18)), "parted"), (("least", (0, (("times", "n", -1),)), -17), "parted"),
        ):
            other = (FORM[0], ("b", ("one", 3), wish), FORM[2])
            self.assertEqual(self.told(FORM, TERM, other, TERM), told, wish)
            self.assertEqual(self.told(other, TERM, FORM, TERM), told, wish)

    def test_one_answer_alone_parts(self):
        for part in (("of", "b", (0, 0, 1)), ("of", "b", (0, 1)), ("of", "s", (0, 1)), ("times", "n", 1), ("where", ("has", "s", 1), 1),
                     ("where", ("all", (AGED, ("not", ("least", (0, (("times", "n", 1),)), 19)))), 1), ("where", TRUE, -1)):
            more = (TERM[0], TERM[1] + (part,))
            self.assertEqual(self.told(FORM, TERM, FORM, more), "parted", part)
            self.assertEqual(self.told(FORM, more, OTHER, TERM), "parted", part)
        for part in (("where", FALSE, 1), ("where", ("all", (AGED, ("not", AGED))), 1), ("of", "b", ()), ("times", "n", 0), ("where", ("has", "s", 2), 1)):
            more = (TERM[0], TERM[1] + (part,))
            self.assertEqual(self.told(FORM, TERM, OTHER, more), "alike", part)

    def test_a_name_that_does_not_show(self):
        hidden = (("n", ("number", -1000, 1000), FALSE), ("b", ("one", 3), AGED), ("s", ("some", 2), FALSE))
        self.assertEqual(self.told(hidden, TERM, FORM, (1, ())), "alike")
        self.assertEqual(self.told(hidden, TERM, FORM, (2, ())), "parted")
        self.assertEqual(self.told(hidden, TERM, FORM, TERM), "parted")

    def test_kinds(self):
        for other in ((), FORM[:2], FORM + (("x", ("one", 1), TRUE),), (("n", ("number", -1000, 999), TRUE),) + FORM[1:]):
            for one, another in ((FORM, other), (other, FORM)):
                with self.assertRaises(NoOrder) as caught:
                    alike(one, (0, ()), another, (0, ()))
                self.assertEqual(caught.exception.word, "kinds")

    def test_names_of_the_arguments(self):
        self.assertEqual(alike(one=(), term=(1, ()), other=(), another=(1, ())), ("alike", (("leaf",),)))

    def test_by_all_whole_stores(self):
        dice = random.Random(62)
        seen = {"alike": 0, "parted": 0}
        for turn in range(500):
            one = lively_form(dice, dice.randint(1, 4))
            other = tuple((name, kind, dice.choice((wish, wish, ("not", ("not", wish)), TRUE))) for name, kind, wish in one)
            kinds = [question[:2] for question in one]
            term = random_term(dice, kinds, 3)
            another = dice.choice((term, (term[0], term[1][::-1]), random_term(dice, kinds, 3), (term[0], term[1] + (("where", FALSE, 3),))))
            same = all(value(view(one, store), term) == value(view(other, store), another) for store in whole_stores(one))
            word = self.told(one, term, other, another)
            self.assertEqual(word, "alike" if same else "parted")
            seen[word] += 1
        self.assertTrue(min(seen.values()) > 100, seen)


class Wide(Papers):
    def test_bars_are_cut_where_they_lie(self):
        term = (0, (("of", "b", (1, 2, 3)),))
        for wish in (AGED, YOUNG, ("least", (5, (("times", "n", 7),)), 100), ("least", (5, (("times", "n", -7),)), 100)):
            form = (FORM[0], ("b", ("one", 3), wish))
            word, rows = alike(form, term, form, term)
            self.assertEqual((word, len(rows)), ("alike", 3))
        one = ("least", (0, (("times", "m", 3), ("where", AGED, 90), ("of", "b", (1, 2)))), 100)
        form = (FORM[0], ("m", WIDE, TRUE), ("b", ("one", 3), TRUE), ("s", ("some", 2), one))
        word, rows = alike(form, (0, (("of", "s", (1,)),)), form, (0, (("of", "s", (1,)),)))
        # Two sides of n, three answers of b, two sides of m.
        self.assertEqual((word, len(rows)), ("alike", 1 + 2 * (1 + 3 * 3)))

    def test_wide_numbers_with_bars(self):
        dice = random.Random(63)
        seen = {"alike": 0, "parted": 0}
        for turn in range(300):
            kinds = barred_kinds(dice)
            bars = Bars(dice, [name for name, kind in kinds if size(kind) > 8])
            one = random_wide_form(dice, bars, kinds)
            other = tuple((name, kind, dice.choice((wish, ("not", ("not", wish))))) for name, kind, wish in one)
            if dice.random() < 0.5:
                other = tuple((name, kind, nudged(dice, wish)) for name, kind, wish in one)
            term = (dice.randint(-9, 9), (("where", bars.sentence(kinds, 2), dice.randint(1, 9)),) + tuple(
                ("times" if kind[0] == "number" else "of", name, dice.randint(1, 9) if kind[0] == "number" else (1, 2, 3)) for name, kind in kinds
            ))
            another = (term[0], term[1][::-1] + dice.choice(((), (("where", ("all", (bars.sentence(kinds, 1), FALSE)), 1),))))
            word = self.told(one, term, other, another)
            seen[word] += 1
            for store in some_stores(dice, one, 40):
                if word == "alike":
                    self.assertEqual(value(view(one, store), term), value(view(other, store), another))
        self.assertTrue(min(seen.values()) > 20, seen)


if __name__ == "__main__":
    unittest.main()
