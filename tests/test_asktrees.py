"""Points [64] and [69]: trees of asks of the least worst, and papers that fewer aren't enough."""

import random
import unittest

from askfolds.askchecker import lets_asks
from askfolds.asking import is_sure, knowns_behind, may_ask
from askfolds.asktrees import ask_tree
from askfolds.errors import NoPaper
from askfolds.forms import kinds_of
from askfolds.kinds import size
from askfolds.needchecker import lets_needs
from askfolds.needs import needs_paper
from askfolds.showing import view
from askfolds.views import holds
from tests.helpers import FALSE, TRUE, lively_form, lively_sentence, random_sentence, whole_stores

LEAF = ("leaf",)


def bits(many):
    """Make a FORM of so many names of two answers."""
    return tuple((name, ("one", 2), TRUE) for name in "abcde"[:many])


def sum_of(many, weights=(0, 1)):
    """Write the TERM that counts the names answered with 1."""
    return 0, tuple(("of", name, weights) for name in "abcde"[:many])


class Papers(unittest.TestCase):
    def told(self, form, sentence):
        """Ask for both papers, look at them, and tell the number at which they meet."""
        tree, paper = ask_tree(form, sentence), needs_paper(form, sentence)
        worst = lets_asks(form, sentence, tree)
        self.assertEqual(lets_needs(form, sentence, paper), worst)
        return worst

    def check(self, form, sentence, number):
        self.assertEqual(self.told(form, sentence), number, sentence)
        self.assertEqual(self.told(form, ("not", sentence)), number, sentence)


class Told(Papers):
    def test_sure_from_the_beginning(self):
        self.assertEqual(ask_tree((), TRUE), (("sure", "yes", (LEAF,)),))
        self.assertEqual(ask_tree((), FALSE), (("sure", "no", (LEAF,)),))
        self.assertEqual(needs_paper((), TRUE), ())
        form = (("a", ("one", 3), TRUE), ("b", ("one", 2), ("is", "a", 1)), ("x", ("one", 2), FALSE))
        for sentence in (TRUE, FALSE, ("given", "a"), ("given", "x"), ("is", "x", 0), ("any", (("is", "a", 0), ("not", ("is", "a", 0)))), ("all", (("given", "b"), ("is", "a", 2)))):
            self.check(form, sentence, 0)
            self.assertEqual(needs_paper(form, sentence), ())
            self.assertEqual(len(ask_tree(form, sentence)), 1)

    def test_one_ask(self):
        form = (("a", ("one", 3), TRUE), ("b", ("one", 2), ("is", "a", 1)), ("c", ("number", 0, 2), TRUE))
        for sentence in (("is", "a", 2), ("given", "b"), ("least", (0, (("times", "c", 1),)), 1)):
            self.check(form, sentence, 1)
        self.assertEqual([row[:2] for row in ask_tree(form, ("given", "b"))], [("ask", "a"), ("sure", "no"), ("sure", "yes"), ("sure", "no")])
        (known, number, yes, no), = needs_paper(form, ("given", "b"))
        self.assertEqual((known, number, dict(yes)["a"] == 1, dict(no)["a"] == 1), ((), 1, True, False))

    def test_only_what_shows_may_be_asked(self):
        form = (("a", ("one", 3), TRUE), ("b", ("one", 2), ("is", "a", 1)), ("c", ("one", 2), ("is", "b", 1)))
        self.check(form, ("is", "b", 0), 2)
        self.check(form, ("is", "c", 0), 3)
        self.check(form, ("all", (("is", "c", 0), ("is", "a", 0))), 0)

    def test_as_many_as_there_are(self):
        for many in range(1, 6):
            form = bits(many)
            odd = FALSE
            for name in "abcde"[:many]:
                odd = ("any", (("all", (odd, ("not", ("is", name, 1)))), ("all", (("not", odd), ("is", name, 1)))))
            self.check(form, odd, many)
            self.check(form, ("least", sum_of(many), 1), many)
            self.check(form, ("least", sum_of(many), many), many)

    def test_fewer_by_the_right_order(self):
        # Which of the others counts is told by a.
        form = bits(4)
        choice = ("any", (("all", (("is", "a", 0), ("is", "b", 1))), ("all", (("is", "a", 1), ("is", "c", 1)))))
        self.check(form, choice, 2)
        self.assertEqual(ask_tree(form, choice)[0], ("ask", "a"))
        self.assertEqual(lets_needs(form, choice, needs_paper(form, choice)), 2)

    def test_names_of_the_arguments(self):
        self.assertEqual(ask_tree(form=(), sentence=TRUE), (("sure", "yes", (LEAF,)),))
        self.assertEqual(needs_paper(form=(), sentence=TRUE), ())

    def test_as_wide_as_may_be(self):
        form = (("a", ("number", 1, 8), TRUE), ("s", ("some", 3), ("least", (0, (("times", "a", 1),)), 3)))
        self.check(form, ("least", (0, (("times", "a", 1), ("of", "s", (1, 2, 4)))), 9), 2)
        form = (("a", ("one", 3), TRUE), ("b", ("one", 3), ("not", ("is", "a", 0))), ("c", ("one", 2), ("given", "b")), ("d", ("one", 2), TRUE), ("e", ("one", 2), ("is", "d", 1)))
        self.check(form, ("least", (0, (("of", "a", (0, 3, 1)), ("of", "b", (2, 0, 1)), ("of", "c", (1, 0)), ("of", "e", (2, 1)))), 4), 5)


class So(Papers):
    def small_form(self, dice):
        """Make a FORM within the bounds for asks."""
        while True:
            form = lively_form(dice, dice.randint(1, 5))
            many = 1
            for question in form:
                many *= size(question[1])
            if many <= 72:
                return form

    def least_worst(self, form, sentence, known):
        """Tell how many asks are needed from the KNOWN, as point [64] says it."""
        words = set(holds(view(form, store), sentence) for store in whole_stores(form) if set(known) <= set(store))
        if len(words) == 1:
            return 0
        return 1 + min(max(self.least_worst(form, sentence, one) for one in knowns_behind(form, known, name)) for name in may_ask(form, known))

    def test_the_least_worst(self):
        dice = random.Random(69)
        seen = {}
        for turn in range(100):
            form = lively_form(dice, dice.randint(1, 3))
            sentence = lively_sentence(dice, kinds_of(form), 3)
            number = self.least_worst(form, sentence, ())
            self.check(form, sentence, number)
            seen[number] = seen.get(number, 0) + 1
        self.assertTrue(len(seen) >= 3, seen)

    def test_both_meet(self):
        dice = random.Random(70)
        seen = {}
        for turn in range(200):
            form = self.small_form(dice)
            sentence = lively_sentence(dice, kinds_of(form), 3)
            number = self.told(form, sentence)
            self.assertEqual(self.told(form, ("not", sentence)), number)
            self.assertEqual(number == 0, is_sure(form, (), sentence) != "maybe")
            seen[number] = seen.get(number, 0) + 1
        self.assertTrue(len(seen) >= 4, seen)

    def test_no_tree_is_better_than_a_paper(self):
        dice = random.Random(71)
        for turn in range(100):
            form = self.small_form(dice)
            sentence = lively_sentence(dice, kinds_of(form), 3)
            paper, tree = needs_paper(form, sentence), ask_tree(form, sentence)
            # A paper that says one more is let by for nobody.
            if paper:
                with self.assertRaises(NoPaper):
                    lets_needs(form, sentence, ((paper[0][0], paper[0][1] + 1) + paper[0][2:],) + paper[1:])
            other = random_sentence(dice, kinds_of(form), 3)
            try:
                worst = lets_asks(form, other, tree)
            except NoPaper:
                continue
            self.assertGreaterEqual(worst, lets_needs(form, other, needs_paper(form, other)))

    def test_going_by_the_tree(self):
        dice = random.Random(64)
        for turn in range(60):
            form = self.small_form(dice)
            sentence = lively_sentence(dice, kinds_of(form), 2)
            tree = ask_tree(form, sentence)
            waiting = [()]
            for row in tree:
                known = waiting.pop()
                if row[0] == "ask":
                    self.assertIn(row[1], may_ask(form, known))
                    waiting += knowns_behind(form, known, row[1])[::-1]
                else:
                    self.assertEqual(row[1], is_sure(form, known, sentence))
            self.assertEqual(waiting, [])


if __name__ == "__main__":
    unittest.main()
