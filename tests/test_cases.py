"""Points [40], [43] and [44]: cases for a claim, or a store against it."""

import random
import unittest

from askfolds.casechecker import lets_cases
from askfolds.cases import claim_cases
from askfolds.forms import kinds_of
from askfolds.kinds import size
from askfolds.showing import aside, is_store, view
from askfolds.unfolding import flat_sentence, flat_store, flat_term, unfolded
from askfolds.views import holds, value
from tests.helpers import (
    FALSE, TRUE, WIDE, Bars, barred_kinds, lively_form, lively_sentence, random_fold, random_fold_store, random_pairs,
    random_term, random_wide_form, seen_behind, some_stores, whole_stores
)

NOTHING = (0, ())
AGED = ("least", (0, (("times", "n", 1),)), 18)
FORM = (("n", WIDE, TRUE), ("b", ("one", 3), AGED), ("s", ("some", 2), ("is", "b", 0)))


def stands(form, store, claim):
    """Tell whether a WHOLE STORE is as the CLAIM says it."""
    sentence, term, number = claim
    seen = view(form, store)
    return not holds(seen, sentence) or value(seen, term) >= number


class Papers(unittest.TestCase):
    def told(self, form, known, claim):
        """Ask, look at what is told, and tell its word."""
        word, thing = claim_cases(form, known, claim)
        if word == "cases":
            self.assertIs(lets_cases(form, known, claim, thing), True)
            return word
        self.assertEqual(word, "against")
        self.assertTrue(is_store(form, thing) and len(thing) == len(form), thing)
        self.assertLessEqual(set(known), set(thing))
        self.assertFalse(stands(form, thing, claim))
        return word

    def check(self, form, known, claim, word):
        self.assertEqual(self.told(form, known, claim), word, (known, claim))


class Claims(Papers):
    def test_the_empty_form(self):
        self.assertEqual(claim_cases((), (), (TRUE, (3, ()), 3)), ("cases", (("leaf",),)))
        self.assertEqual(claim_cases((), (), (TRUE, (3, ()), 4)), ("against", ()))
        self.assertEqual(claim_cases((), (), (FALSE, (3, ()), 4)), ("cases", (("leaf",),)))

    def test_that_a_sentence_never_holds(self):
        for sentence, word in (
            (("all", (("given", "b"), ("not", AGED))), "cases"), (("given", "b"), "against"), (FALSE, "cases"), (TRUE, "against"),
            (("all", (("given", "s"), ("is", "b", 1))), "cases"), (("all", (("given", "s"), ("is", "b", 0))), "against"),
            (("has", "s", 1), "against"), (("has", "s", 2), "cases"), (("is", "b", 3), "cases"), (("not", ("given", "n")), "cases"),
            (("all", (("has", "s", 0), ("has", "s", 1), ("not", ("least", (0, (("times", "n", 1),)), 19)))), "against"),
            (("all", (("has", "s", 0), ("not", ("least", (0, (("times", "n", 1),)), 18)))), "cases"),
        ):
            self.check(FORM, (), (sentence, NOTHING, 1), word)

    def test_just_met_and_missed_by_one(self):
        for sentence, term, number in (
            (TRUE, (0, (("times", "n", 1),)), -1000), (TRUE, (0, (("times", "n", -1),)), -1000), (("given", "b"), (0, (("times", "n", 1),)), 18),
            (("not", ("given", "b")), (0, (("times", "n", -1),)), -17), (TRUE, (5, (("of", "b", (3, -2, 1)),)), 3),
            (TRUE, (0, (("of", "s", (-2, -3)),)), -5), (("not", ("has", "s", 1)), (0, (("of", "s", (-2, -3)),)), -2),
            (("given", "b"), (0, (("times", "n", 7), ("of", "b", (0, -1)))), 125), (("is", "b", 2), (0, (("times", "n", 7), ("of", "b", (0, -1)))), 126),
            (TRUE, (0, (("where", ("given", "b"), -4), ("where", ("given", "s"), -4))), -8),
            (TRUE, (0, (("of", "b", (1, 2, 3)), ("of", "b", (-1, -2, -3)))), 0), (TRUE, (0, (("of", "s", (1, -1)), ("of", "s", (-1, 1)))), 0),
            (TRUE, (0, (("of", "b", (2, 1, 1)), ("of", "b", (0, 1, 3)), ("of", "b", (0, 0, -2)))), 0),
        ):
            self.check(FORM, (), (sentence, term, number), "cases")
            self.check(FORM, (), (sentence, term, number - 1), "cases")
            self.check(FORM, (), (sentence, term, number + 1), "against")

    def test_from_known_answers(self):
        for known, claim, word in (
            ((("n", 17),), (("given", "b"), NOTHING, 1), "cases"), ((("n", 18),), (("given", "b"), NOTHING, 1), "against"),
            ((("n", 18),), (("not", ("given", "b")), NOTHING, 1), "cases"), ((("b", 1),), (("given", "s"), NOTHING, 1), "cases"),
            ((("b", 0),), (("given", "s"), NOTHING, 1), "against"), ((("b", 0), ("s", (1,))), (("has", "s", 0), NOTHING, 1), "cases"),
            ((("b", 0), ("s", (1,))), (("has", "s", 1), NOTHING, 1), "against"), ((("n", 40), ("b", 0), ("s", ())), (("given", "s"), NOTHING, 1), "against"),
            ((("n", 5),), (TRUE, (0, (("times", "n", 1),)), 5), "cases"), ((("n", 5),), (TRUE, (0, (("times", "n", 1),)), 6), "against"),
        ):
            self.check(FORM, known, claim, word)

    def test_known_answers_that_do_not_show(self):
        known = (("n", 3), ("b", 0), ("s", (0,)))
        self.assertEqual(aside(FORM, known), known[1:])
        self.check(FORM, known, (("any", (("given", "b"), ("has", "s", 0))), NOTHING, 1), "cases")
        self.check(FORM, known[1:], (("has", "s", 1), NOTHING, 1), "cases")
        self.check(FORM, known[1:], (("has", "s", 0), NOTHING, 1), "against")
        self.check(FORM, known[2:], (("all", (("has", "s", 0), ("is", "b", 1))), NOTHING, 1), "cases")
        hidden = (("a", ("one", 2), FALSE), ("b", ("one", 2), ("given", "a")))
        self.check(hidden, (("a", 1), ("b", 1)), (("any", (("is", "a", 1), ("is", "b", 1))), NOTHING, 1), "cases")

    def test_sure_although_the_word_is_maybe(self):
        for sentence in (("any", (AGED, ("not", AGED))), ("any", (("not", ("given", "b")), ("is", "b", 0), ("is", "b", 1), ("is", "b", 2)))):
            self.check(FORM, (), (("not", sentence), NOTHING, 1), "cases")
            self.check(FORM, (), (sentence, NOTHING, 1), "against")

    def test_names_of_the_arguments(self):
        self.assertEqual(claim_cases(form=(), known=(), claim=(FALSE, NOTHING, 1)), ("cases", (("leaf",),)))

    def test_by_all_whole_stores(self):
        dice = random.Random(44)
        seen = {"cases": 0, "against": 0}
        for turn in range(600):
            form = lively_form(dice, dice.randint(1, 4))
            known = random_pairs(dice, [question for question in form if dice.random() < 0.3])
            term = random_term(dice, kinds_of(form), 3)
            sentence = lively_sentence(dice, kinds_of(form), 3)
            stores = [store for store in whole_stores(form) if set(known) <= set(store)]
            values = [value(view(form, store), term) for store in stores if holds(view(form, store), sentence)]
            number = dice.choice([min(values), min(values) + 1, min(values) - 1] if values else [0, 1])
            claim = (sentence, term, number)
            word = "cases" if all(stands(form, store, claim) for store in stores) else "against"
            self.check(form, known, claim, word)
            seen[word] += 1
        self.assertTrue(min(seen.values()) > 100, seen)


class Wide(Papers):
    def test_bars_are_cut_where_they_lie(self):
        for wish in (AGED, ("least", (5, (("times", "n", 7),)), 100), ("not", ("least", (5, (("times", "n", -7),)), 100))):
            form = (FORM[0], ("b", ("one", 3), wish))
            word, rows = claim_cases(form, (), (("all", (("given", "b"), ("not", wish))), NOTHING, 1))
            self.assertEqual((word, len(rows)), ("cases", 3))

    def test_seven_parts_of_one(self):
        steps = tuple(("where", ("least", (0, (("times", "n", w),)), 100 * w + at), 1) for at, w in enumerate((1, -1, 2, -2, 3, -3, 7)))
        form = (("n", WIDE, TRUE), ("b", ("one", 6), TRUE), ("c", ("number", 0, 7), TRUE))
        count = (0, steps)
        by_hand = [value((("n", n),), count) for n in range(-1000, 1001)]
        self.check(form, (), (TRUE, count, min(by_hand)), "cases")
        self.check(form, (), (TRUE, count, min(by_hand) + 1), "against")
        self.check(form, (), (("least", count, max(by_hand) + 1), NOTHING, 1), "cases")
        self.check(form, (), (("least", count, max(by_hand)), NOTHING, 1), "against")
        self.assertLess(len(claim_cases(form, (), (("least", count, max(by_hand) + 1), NOTHING, 1))[1]), 40)

    def test_several_wide_names(self):
        form = (("a", WIDE, TRUE), ("b", WIDE, ("least", (0, (("times", "a", 1),)), 1)), ("c", ("one", 6), ("least", (0, (("times", "b", -2),)), 7)))
        sum_of = (0, (("times", "a", 1), ("times", "b", -1), ("of", "c", (0, 1, 2, 3, 4, 5))))
        for sentence, number in (
            (TRUE, -1000), (("given", "b"), -999), (("given", "c"), 5), (("is", "c", 5), 10), (("not", ("given", "c")), -1000),
            (("all", (("given", "b"), ("not", ("given", "c")))), -999),
        ):
            self.check(form, (), (sentence, sum_of, number), "cases")
            self.check(form, (), (sentence, sum_of, number + 1), "against")

    def test_a_bar_that_other_answers_shift(self):
        bar = ("least", (0, (("times", "n", 3), ("of", "b", (0, 500, -500)), ("times", "m", 100), ("where", ("has", "s", 0), 1000))), 600)
        form = (("n", WIDE, TRUE), ("b", ("one", 3), TRUE), ("s", ("some", 1), TRUE), ("m", ("number", -3, 3), TRUE), ("z", ("one", 1), bar))
        least = min(
            n for b in (0, 500, -500) for s in (0, 1000) for m in range(-3, 4) for n in [-(-(600 - b - s - 100 * m) // 3)]
        )
        self.check(form, (), (("given", "z"), (0, (("times", "n", 1),)), least), "cases")
        self.check(form, (), (("given", "z"), (0, (("times", "n", 1),)), least + 1), "against")

    def test_wide_numbers_with_bars(self):
        dice = random.Random(45)
        seen = {"cases": 0, "against": 0}
        for turn in range(400):
            kinds = barred_kinds(dice)
            bars = Bars(dice, [name for name, kind in kinds if size(kind) > 8])
            form = random_wide_form(dice, bars, kinds)
            sentence = bars.sentence(kinds, 2)
            term = (dice.randint(-9, 9), (("where", bars.sentence(kinds, 2), dice.randint(-9, 9)),) + tuple(
                ("times", name, dice.randint(-9, 9)) if kind[0] == "number" else ("of", name, (1, -2, 3)) for name, kind in kinds if dice.random() < 0.6
            ))
            known = some_stores(dice, form, 1)[0][:dice.choice((0, 0, 1, 2))]
            values = [
                value(view(form, store), term) for store in [known + store[len(known):] for store in some_stores(dice, form, 60)]
                if holds(view(form, store), sentence)
            ]
            for number in [min(values), min(values) - 500] if values else [0]:
                claim = (sentence, term, number)
                word = self.told(form, known, claim)
                seen[word] += 1
                self.assertFalse(word == "cases" and values and min(values) < number)
        self.assertTrue(min(seen.values()) > 60, seen)


class Unfolded(Papers):
    def test_forms_of_folds(self):
        dice = random.Random(46)
        for turn in range(40):
            fold = random_fold(dice, 3)
            form = unfolded(fold)
            ahead, blocks = seen_behind(fold)
            sentence = flat_sentence(fold, lively_sentence(dice, ahead, 2, blocks))
            term = flat_term(fold, random_term(dice, ahead, 1, blocks))
            known = flat_store(fold, random_fold_store(dice, fold))
            self.told(form, known, (sentence, term, dice.randint(-3, 3)))


if __name__ == "__main__":
    unittest.main()
