"""Points [45], [47] and [48]: what is reached, by a filling with fewest answers."""

import random
import unittest

from askfolds.counting import how_many
from askfolds.forms import kinds_of
from askfolds.kinds import answers, size
from askfolds.listing import row_of
from askfolds.reachchecker import lets_reach
from askfolds.reaching import answers_term, reach
from askfolds.showing import view
from askfolds.terms import is_term
from askfolds.unfolding import flat_sentence, unfolded
from askfolds.views import holds, value
from tests.helpers import (
    FALSE, TRUE, WIDE, Bars, barred_kinds, lively_form, lively_sentence, random_fold, random_wide_form, seen_behind, some_stores,
    view_of, whole_stores
)

LEAF = ("leaf",)


def bar(name, number, weight=1):
    """Write that the name's answer, so many times, is the number or more."""
    return "least", (0, (("times", name, weight),)), number


class AnswersTerm(unittest.TestCase):
    def test_told(self):
        self.assertEqual(answers_term(()), (0, ()))
        form = (("z", ("one", 2), TRUE), ("a", ("some", 2), FALSE), ("m", WIDE, ("given", "z")))
        self.assertEqual(answers_term(form), (0, (("where", ("given", "z"), 1), ("where", ("given", "a"), 1), ("where", ("given", "m"), 1))))
        self.assertEqual(answers_term(form=()), (0, ()))

    def test_of_any_form(self):
        form = tuple((f"q{at}", ("number", -10 ** 150, 10 ** 150), TRUE) for at in range(99))
        self.assertEqual(answers_term(form)[1][98], ("where", ("given", "q98"), 1))
        self.assertTrue(is_term(kinds_of(form), answers_term(form)))

    def test_how_many_pairs(self):
        dice = random.Random(45)
        for turn in range(60):
            form = lively_form(dice, dice.randint(0, 4))
            for store in whole_stores(form)[:20]:
                self.assertEqual(value(view(form, store), answers_term(form)), len(view(form, store)))


class Papers(unittest.TestCase):
    def told(self, form, sentence):
        """Ask, look at the paper that is told, and tell its FILLING, None of never."""
        paper = reach(form, sentence)
        self.assertEqual(lets_reach(form, sentence, paper), paper[0])
        if paper[0] == "never":
            return None
        return paper[1]

    def check(self, form, sentence, filling):
        self.assertEqual(self.told(form, sentence), filling, sentence)


class Reach(Papers):
    def test_the_empty_form(self):
        self.assertEqual(reach((), TRUE), ("least", (), (LEAF,)))
        self.assertEqual(reach((), FALSE), ("never", (LEAF,)))
        self.assertEqual(reach(form=(), sentence=TRUE), ("least", (), (LEAF,)))

    def test_reached_and_never(self):
        form = (
            ("n", ("number", -3, 4), TRUE), ("b", ("one", 3), bar("n", 1)), ("s", ("some", 2), ("is", "b", 0)), ("x", ("one", 2), ("all", (("given", "s"), ("is", "b", 1)))),
        )
        for sentence, filling in (
            (TRUE, (("n", -3),)), (("given", "b"), (("n", 1), ("b", 1))), (("given", "s"), (("n", 1), ("b", 0), ("s", ()))), (("given", "x"), None),
            (("has", "s", 1), (("n", 1), ("b", 0), ("s", (0, 1)))), (("all", (("has", "s", 1), ("not", ("has", "s", 0)))), (("n", 1), ("b", 0), ("s", (1,)))),
            (FALSE, None), (("not", ("given", "n")), None), (("is", "b", 2), (("n", 1), ("b", 2))), (("is", "b", 3), None), (bar("n", 4), (("n", 4), ("b", 1))),
            (("all", (("given", "b"), ("not", bar("n", 1)))), None), (("not", ("given", "b")), (("n", -3),)),
        ):
            self.check(form, sentence, filling)

    def test_fewest_pairs_go_first(self):
        # The least ROW has a of 0, but then b shows, too.
        form = (("a", ("one", 3), TRUE), ("b", ("one", 2), ("is", "a", 0)), ("c", ("one", 2), ("not", ("is", "a", 2))))
        self.check(form, TRUE, (("a", 2),))
        self.check(form, ("not", ("is", "a", 2)), (("a", 1), ("c", 0)))
        self.check(form, ("given", "c"), (("a", 1), ("c", 0)))
        self.check(form, ("given", "b"), (("a", 0), ("b", 0), ("c", 0)))

    def test_of_as_many_the_least_row(self):
        form = (("a", ("one", 4), TRUE), ("b", ("one", 3), ("is", "a", 1)), ("c", ("one", 3), ("is", "a", 2)), ("d", ("one", 3), ("is", "a", 3)))
        self.check(form, ("any", (("is", "c", 0), ("is", "b", 2))), (("a", 1), ("b", 2)))
        self.check(form, ("any", (("is", "d", 0), ("is", "c", 1))), (("a", 2), ("c", 1)))
        some = (("s", ("some", 4), TRUE),)
        for sentence, chosen in (
            (TRUE, ()), (("has", "s", 0), (0,)), (("has", "s", 3), (0, 1, 2, 3)), (("all", (("has", "s", 3), ("not", ("has", "s", 1)))), (0, 2, 3)),
            (("all", (("has", "s", 1), ("has", "s", 3))), (0, 1, 2, 3)), (("all", (("has", "s", 0), ("has", "s", 2))), (0, 1, 2)),
            (("all", (("has", "s", 1), ("not", ("has", "s", 0)))), (1,)), (("any", (("has", "s", 2), ("has", "s", 1))), (0, 1)),
            (("least", (0, (("of", "s", (1, 1, 1, 1)),)), 2), (0, 1)), (("least", (0, (("of", "s", (-1, 1, 1, 1)),)), 2), (0, 1, 2, 3)),
        ):
            self.check(some, sentence, (("s", chosen),))

    def test_by_all_fillings(self):
        dice = random.Random(48)
        seen = {"least": 0, "never": 0, "several": 0}
        for turn in range(600):
            form = lively_form(dice, dice.randint(1, 4))
            sentence = lively_sentence(dice, kinds_of(form), 3)
            views = [one for one in set(view_of(form, store) for store in whole_stores(form)) if holds(one, sentence)]
            if not views:
                seen["never"] += 1
                self.check(form, sentence, None)
                continue
            best = sorted(views, key=lambda one: (len(one), row_of(form, one)))
            seen["least"] += 1
            seen["several"] += len(best) > 1 and len(best[0]) == len(best[1])
            self.check(form, sentence, best[0])
        self.assertTrue(min(seen.values()) > 100, seen)

    def test_reached_just_where_some_are_counted(self):
        dice = random.Random(53)
        for turn in range(200):
            form = lively_form(dice, dice.randint(1, 4))
            sentence = lively_sentence(dice, kinds_of(form), 3)
            self.assertEqual(reach(form, sentence)[0] == "never", how_many(form, sentence) == 0)


class Wide(Papers):
    def test_bars(self):
        form = (("n", WIDE, TRUE), ("m", WIDE, bar("n", 700)), ("b", ("one", 6), ("all", (("given", "m"), bar("m", -7, 2), bar("n", -1400, -2)))))
        self.check(form, TRUE, (("n", -1000),))
        self.check(form, ("given", "m"), (("n", 700), ("m", -1000)))
        self.check(form, ("given", "b"), (("n", 700), ("m", -3), ("b", 0)))
        self.check(form, ("all", (("given", "m"), bar("m", -3), ("not", ("given", "b")))), (("n", 701), ("m", -3)))
        self.check(form, ("all", (("given", "b"), bar("n", 701))), None)
        self.check(form, bar("n", 1000), (("n", 1000), ("m", -1000)))
        self.check(form, bar("n", 1001), None)

    def test_least_rows_by_bars(self):
        dice = random.Random(49)
        seen = {"least": 0, "never": 0}
        for turn in range(250):
            kinds = barred_kinds(dice)
            bars = Bars(dice, [name for name, kind in kinds if size(kind) > 8])
            form = random_wide_form(dice, bars, kinds)
            sentence = bars.sentence(kinds, 2)
            filling = self.told(form, sentence)
            seen["never" if filling is None else "least"] += 1
            for one in [view(form, store) for store in some_stores(dice, form, 30)]:
                if holds(one, sentence):
                    self.assertLessEqual((len(filling), row_of(form, filling)), (len(one), row_of(form, one)))
            if filling is not None:
                self.look_for_lesser_rows(form, sentence, filling)
        self.assertTrue(min(seen.values()) > 5, seen)

    def look_for_lesser_rows(self, form, sentence, filling):
        """Look, by papers, that no FILLING of as many pairs parts from this one by a lesser ANSWER."""
        kinds = dict(kinds_of(form))
        few = ("not", ("least", answers_term(form), len(filling) + 1))
        for at, (name, answer) in enumerate(filling):
            ahead = tuple(answered(one, kinds[one], other) for one, other in filling[:at])
            self.check(form, ("all", (sentence, few, lesser(name, kinds[name], answer)) + ahead), None)


def answered(name, kind, answer):
    """Write that the name is given with this answer."""
    if kind[0] == "number":
        return "all", (("given", name), bar(name, answer), ("not", bar(name, answer + 1)))
    if kind[0] == "one":
        return "is", name, answer
    return "all", (("given", name),) + tuple(("has", name, c) if c in answer else ("not", ("has", name, c)) for c in range(kind[1]))


def lesser(name, kind, answer):
    """Write that the name is given with a lesser answer."""
    if kind[0] == "number":
        return "all", (("given", name), ("not", bar(name, answer)))
    return "any", tuple(answered(name, kind, one) for one in answers(kind) if one < answer)


class Unfolded(Papers):
    def test_forms_of_folds(self):
        dice = random.Random(50)
        for turn in range(60):
            fold = random_fold(dice, 3)
            ahead, blocks = seen_behind(fold)
            sentence = flat_sentence(fold, lively_sentence(dice, ahead, 2, blocks))
            form = unfolded(fold)
            filling = self.told(form, sentence)
            self.assertEqual(filling is None, how_many(form, sentence) == 0)


if __name__ == "__main__":
    unittest.main()
