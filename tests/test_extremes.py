"""Points [49] and [50]: the least and the greatest to which a term comes."""

import random
import unittest

from askfolds.errors import NoFilling
from askfolds.extremechecker import lets_least
from askfolds.extremes import contrary, greatest, least
from askfolds.forms import kinds_of
from askfolds.kinds import size
from askfolds.reaching import reach
from askfolds.showing import is_filling, view
from askfolds.unfolding import flat_sentence, flat_term, unfolded
from askfolds.views import holds, value
from tests.helpers import (
    FALSE, TRUE, WIDE, Bars, barred_kinds, lively_form, lively_sentence, random_fold, random_term, random_wide_form, seen_behind,
    some_stores, view_of, whole_stores
)

LEAF = ("leaf",)
AGED = ("least", (0, (("times", "n", 1),)), 18)
FORM = (("n", WIDE, TRUE), ("b", ("one", 3), AGED), ("s", ("some", 2), ("is", "b", 0)))
TERM = (7, (("times", "n", 3), ("of", "b", (5, -2, 0)), ("of", "s", (-4, 9)), ("where", ("given", "b"), -100)))


class Contrary(unittest.TestCase):
    def test_told(self):
        self.assertEqual(contrary((0, ())), (0, ()))
        self.assertEqual(contrary((-5, ())), (5, ()))
        self.assertEqual(contrary(TERM), (-7, (("times", "n", -3), ("of", "b", (-5, 2, 0)), ("of", "s", (4, -9)), ("where", ("given", "b"), 100))))
        self.assertEqual(contrary((1, (("of", "b", ()), ("times", "n", 0)))), (-1, (("of", "b", ()), ("times", "n", 0))))
        self.assertEqual(contrary(term=(2, ())), (-2, ()))

    def test_sentences_stay_whole(self):
        inner = ("least", (3, (("times", "n", 2), ("of", "b", (1, 2)), ("where", AGED, 4))), 5)
        self.assertEqual(contrary((1, (("where", inner, 6),))), (-1, (("where", inner, -6),)))
        self.assertEqual(contrary((1, (("where", ("not", ("any", (inner, AGED))), -6),))), (-1, (("where", ("not", ("any", (inner, AGED))), 6),)))

    def test_turned_to_the_contrary(self):
        dice = random.Random(49)
        for turn in range(200):
            form = lively_form(dice, dice.randint(1, 4))
            term = random_term(dice, kinds_of(form), 3)
            self.assertEqual(contrary(contrary(term)), term)
            for store in whole_stores(form)[:20]:
                self.assertEqual(value(view(form, store), contrary(term)), -value(view(form, store), term))


class Papers(unittest.TestCase):
    def told(self, form, sentence, term):
        """Ask for both, look at the papers that are told, and tell the numbers, None of never."""
        try:
            low, filling, cases = least(form, sentence, term)
        except NoFilling as caught:
            self.assertEqual(caught.word, "never")
            self.assertEqual(reach(form, sentence)[0], "never")
            with self.assertRaises(NoFilling) as other:
                greatest(form, sentence, term)
            self.assertEqual(other.exception.word, "never")
            return None
        self.assertEqual(lets_least(form, sentence, term, (low, filling, cases)), low)
        high, other, others = greatest(form, sentence, term)
        self.assertTrue(is_filling(form, other) and holds(other, sentence))
        self.assertEqual(value(other, term), high)
        self.assertEqual(lets_least(form, sentence, contrary(term), (-high, other, others)), -high)
        return low, high

    def check(self, form, sentence, term, numbers):
        self.assertEqual(self.told(form, sentence, term), numbers, (sentence, term))


class Extremes(Papers):
    def test_the_empty_form(self):
        self.assertEqual(least((), TRUE, (7, ())), (7, (), (LEAF,)))
        self.assertEqual(greatest((), TRUE, (7, ())), (7, (), (LEAF,)))
        self.check((), FALSE, (7, ()), None)
        self.check((), TRUE, (7, (("where", TRUE, -9),)), (-2, -2))

    def test_told(self):
        for sentence, term, numbers in (
            (TRUE, (0, (("times", "n", 1),)), (-1000, 1000)), (TRUE, (0, (("times", "n", -2),)), (-2000, 2000)), (TRUE, (5, ()), (5, 5)),
            (AGED, (0, (("times", "n", 1),)), (18, 1000)), (("not", ("given", "b")), (0, (("times", "n", 1),)), (-1000, 17)),
            (TRUE, TERM, (-2993, 2921)), (("given", "b"), TERM, (-41, 2921)), (("given", "s"), TERM, (-38, 2921)), (("is", "b", 1), TERM, (-41, 2905)),
            (("all", (("has", "s", 0), ("not", ("has", "s", 1)))), TERM, (-38, 2908)), (FALSE, TERM, None), (("is", "b", 3), TERM, None),
            (("all", (("given", "b"), ("not", AGED))), TERM, None), (TRUE, (0, (("of", "s", (1, 2, 99)),)), (0, 3)), (("given", "s"), (0, (("of", "s", (1, -2)),)), (-2, 1)),
        ):
            self.check(FORM, sentence, term, numbers)

    def test_a_name_twice(self):
        for parts, numbers in (
            ((("of", "b", (1, 2, 3)), ("of", "b", (-1, -2, -3))), (0, 0)), ((("of", "b", (5, 0, 3)), ("of", "b", (0, 4))), (0, 5)),
            ((("of", "s", (1, -1)), ("of", "s", (-2, 2))), (-1, 1)), ((("of", "s", (3,)), ("where", ("has", "s", 0), -3)), (0, 0)),
            ((("of", "b", (3, 4)), ("where", ("is", "b", 1), -9)), (-5, 3)),
        ):
            self.check(FORM, TRUE, (0, parts), numbers)
        narrow = (("x", ("number", -3, 4), TRUE), ("y", ("number", 0, 7), TRUE))
        self.check(narrow, TRUE, (0, (("times", "x", 2), ("times", "y", 1), ("times", "x", -3), ("times", "y", -1))), (-4, 3))

    def test_names_of_the_arguments(self):
        self.assertEqual(least(form=(), sentence=TRUE, term=(1, ())), (1, (), (LEAF,)))
        self.assertEqual(greatest(form=(), sentence=TRUE, term=(1, ())), (1, (), (LEAF,)))

    def test_by_all_fillings(self):
        dice = random.Random(50)
        seen = {"told": 0, "never": 0}
        for turn in range(500):
            form = lively_form(dice, dice.randint(1, 4))
            sentence, term = lively_sentence(dice, kinds_of(form), 3), random_term(dice, kinds_of(form), 3)
            values = [value(one, term) for one in set(view_of(form, store) for store in whole_stores(form)) if holds(one, sentence)]
            self.check(form, sentence, term, (min(values), max(values)) if values else None)
            seen["told" if values else "never"] += 1
        self.assertTrue(min(seen.values()) > 80, seen)


class Wide(Papers):
    def test_several_wide_names(self):
        form = (
            ("a", WIDE, TRUE), ("b", WIDE, ("least", (0, (("times", "a", 1),)), 1)), ("c", ("one", 6), ("least", (0, (("times", "b", -2),)), 7)),
        )
        term = (0, (("times", "a", 1), ("times", "b", -1), ("of", "c", (0, 1, 2, 3, 4, 5))))
        self.check(form, TRUE, term, (-1000, 2005))
        self.check(form, ("given", "c"), term, (5, 2005))
        self.check(form, ("is", "c", 3), term, (8, 2003))
        self.check(form, ("all", (("given", "b"), ("not", ("given", "c")))), term, (-999, 1003))
        self.check(form, ("all", (("given", "c"), ("not", ("given", "b")))), term, None)

    def test_wide_numbers_with_bars(self):
        dice = random.Random(51)
        seen = {"told": 0, "never": 0}
        for turn in range(300):
            kinds = barred_kinds(dice)
            bars = Bars(dice, [name for name, kind in kinds if size(kind) > 8])
            form = random_wide_form(dice, bars, kinds)
            sentence = bars.sentence(kinds, 2)
            term = (dice.randint(-9, 9), (("where", bars.sentence(kinds, 2), dice.randint(-99, 99)),) + tuple(
                ("times", name, dice.randint(-9, 9)) if kind[0] == "number" else ("of", name, (1, -2, 3)) for name, kind in kinds if dice.random() < 0.8
            ))
            numbers = self.told(form, sentence, term)
            seen["told" if numbers else "never"] += 1
            for one in [view(form, store) for store in some_stores(dice, form, 40)]:
                if holds(one, sentence):
                    self.assertTrue(numbers[0] <= value(one, term) <= numbers[1])
        self.assertTrue(min(seen.values()) > 5, seen)


class Unfolded(Papers):
    def test_forms_of_folds(self):
        dice = random.Random(52)
        for turn in range(60):
            fold = random_fold(dice, 3)
            ahead, blocks = seen_behind(fold)
            sentence = flat_sentence(fold, lively_sentence(dice, ahead, 2, blocks))
            self.told(unfolded(fold), sentence, flat_term(fold, random_term(dice, ahead, 1, blocks)))


if __name__ == "__main__":
    unittest.main()
