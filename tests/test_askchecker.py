"""Points [65] and [66]: the checker of ask trees."""

import random
import unittest

from askfolds.askchecker import lets_asks
from askfolds.asking import is_sure, knowns_behind, may_ask, sure_claim
from askfolds.cases import claim_cases
from askfolds.errors import NoPaper
from askfolds.forms import kinds_of
from tests.helpers import BIG, FALSE, ODD_THINGS, TRUE, lively_form, lively_sentence

LEAF = ("leaf",)
FORM = (
    ("b", ("one", 3), TRUE),
    ("c", ("one", 2), ("is", "b", 1)),
    ("s", ("some", 1), ("is", "c", 0)),
    ("x", ("number", 0, 1), FALSE),
)
SENTENCE = ("has", "s", 0)
NO = ("sure", "no", (LEAF,))
YES = ("sure", "yes", (LEAF,))
# b of 0 is sure at once, b of 1 needs c, and c of 0 needs s; b of 2 is sure at once.
TREE = (("ask", "b"), NO, ("ask", "c"), ("ask", "s"), NO, YES, NO, NO)


class Refusals(unittest.TestCase):
    def refused(self, thing, word, number, sentence=SENTENCE, form=FORM):
        with self.assertRaises(NoPaper) as caught:
            lets_asks(form, sentence, thing)
        self.assertEqual((caught.exception.word, caught.exception.number), (word, number), thing)


class Checker(Refusals):
    def test_worst(self):
        self.assertEqual(lets_asks(FORM, SENTENCE, TREE), 3)
        self.assertEqual(lets_asks(FORM, TRUE, (YES,)), 0)
        self.assertEqual(lets_asks(FORM, FALSE, (NO,)), 0)
        self.assertEqual(lets_asks((), TRUE, (YES,)), 0)
        self.assertEqual(lets_asks((), FALSE, (NO,)), 0)
        self.assertEqual(lets_asks(FORM, ("given", "c"), (("ask", "b"), NO, YES, NO)), 1)
        self.assertEqual(lets_asks(FORM, ("is", "b", 2), (("ask", "b"), NO, NO, YES)), 1)

    def test_more_asks_than_needed(self):
        self.assertEqual(lets_asks(FORM, TRUE, (("ask", "b"), YES, YES, YES)), 1)
        self.assertEqual(lets_asks(FORM, ("given", "c"), (("ask", "b"), NO, ("ask", "c"), YES, YES, NO)), 2)

    def test_trees_of_unlike_depths(self):
        deep_first = (("ask", "b"), ("ask", "c"), ("ask", "s"), YES, NO, NO, NO, NO)
        form = (("b", ("one", 3), TRUE), ("c", ("one", 2), ("is", "b", 0)), ("s", ("some", 1), ("is", "c", 0)))
        self.assertEqual(lets_asks(form, ("all", (("given", "s"), ("not", ("has", "s", 0)))), deep_first), 3)
        deep_last = (("ask", "b"), NO, NO, ("ask", "c"), NO, ("ask", "s"), NO, YES)
        form = (("b", ("one", 3), TRUE), ("c", ("one", 2), ("is", "b", 2)), ("s", ("some", 1), ("is", "c", 1)))
        self.assertEqual(lets_asks(form, SENTENCE, deep_last), 3)
        two = (("a", ("number", 0, 1), TRUE), ("b", ("one", 2), TRUE))
        both = ("all", (("is", "b", 1), ("least", (0, (("times", "a", 1),)), 1)))
        self.assertEqual(lets_asks(two, both, (("ask", "a"), NO, ("ask", "b"), NO, YES)), 2)
        self.assertEqual(lets_asks(two, both, (("ask", "b"), NO, ("ask", "a"), NO, YES)), 2)

    def test_an_ask_of_one_behind(self):
        # s comes into the known ahead of c, in the FORM's order all the same.
        form = (("a", ("one", 2), TRUE), ("c", ("one", 2), TRUE))
        sentence = ("all", (("is", "a", 1), ("is", "c", 0)))
        self.assertEqual(lets_asks(form, sentence, (("ask", "c"), ("ask", "a"), NO, YES, NO)), 2)

    def test_shape(self):
        for thing in ODD_THINGS + (list(TREE), "ask", BIG):
            if not isinstance(thing, tuple):
                self.refused(thing, "shape", -1)

    def test_row(self):
        rows = (
            ("ask",), ("ask", "b", ()), ["ask", "b"], ("ask", ["b"]), ("ask", ("b",)), ("ask", None), ("ask", True), ("ask", 0), ("ask", ""),
            ("ask", "B"), ("ask", "1b"), ("ask", "abcdefghi"), ("Ask", "b"), (True, "b"), ("sure", "yes"), ("sure", "no"), ("sure", "maybe", (LEAF,)),
            ("sure", True, (LEAF,)), ("sure", None, (LEAF,)), ("sure", ["no"], (LEAF,)), ("sure", ("no",), (LEAF,)), ("sure", "", (LEAF,)),
            ["sure", "no", (LEAF,)], ("sure", "no", (LEAF,), ()), ("sure",), ("sure", "No", (LEAF,)), ("ask", "no", (LEAF,)), ("", "no", (LEAF,)), (True, "yes", (LEAF,)),
            (["sure"], "no", (LEAF,)), ("no", "sure", (LEAF,)), LEAF, "ask", (), [],
        ) + ODD_THINGS
        for row in rows:
            self.refused((row,), "row", 0)
            self.refused(TREE[:1] + (row,), "row", 1)
            self.refused(TREE[:5] + (row,), "row", 5)
            self.refused(TREE + (row,), "row", 8)

    def test_more(self):
        for row in (NO, YES, ("ask", "b"), ("ask", "zz"), ("sure", "no", None)):
            self.refused(TREE + (row,), "more", 8)
            self.refused((YES, row), "more", 1, sentence=TRUE)

    def test_ask(self):
        for name in ("c", "s", "x", "zz", "a", "b1"):
            self.refused((("ask", name),), "ask", 0)
        for at, names in ((1, ("b", "c", "s", "x")), (2, ("b", "s", "x", "zz")), (3, ("b", "c", "x")), (4, ("b", "c", "s", "x")), (6, ("s", "b", "c"))):
            for name in names:
                self.refused(TREE[:at] + (("ask", name),), "ask", at)
        self.refused((("ask", "b"),), "ask", 0, form=(), sentence=TRUE)

    def test_an_ask_whose_state_is_maybe(self):
        form = (("a", ("one", 2), TRUE), ("b", ("one", 2), ("any", (("is", "a", 0), ("is", "a", 1)))))
        self.refused((("ask", "b"), NO, YES), "ask", 0, form=form, sentence=("is", "b", 1))
        self.assertEqual(lets_asks(form, ("is", "b", 1), (("ask", "a"), ("ask", "b"), NO, YES, ("ask", "b"), NO, YES)), 2)

    def test_sure(self):
        for cases in (None, True, 0, "leaf", [], [LEAF], (), (LEAF, LEAF), (("wrong",),), (("cut", "x", 1), LEAF), (("each", "b"), LEAF, LEAF, LEAF)):
            self.refused(TREE[:1] + (("sure", "no", cases),), "sure", 1)
            self.refused(TREE[:1] + (("sure", "no", cases),) + TREE[2:], "sure", 1)
            self.refused(TREE[:7] + (("sure", "no", cases),), "sure", 7)
        for at, row in ((1, YES), (2, NO), (2, YES), (3, NO), (4, YES), (5, NO), (6, YES), (7, YES)):
            self.refused(TREE[:at] + (row,) + TREE[at + 1:], "sure", at)
        self.refused((NO,), "sure", 0)
        self.refused((YES,), "sure", 0, sentence=FALSE)

    def test_cases_from_the_known(self):
        form = (("a", ("one", 2), TRUE), ("b", ("one", 2), ("any", (("is", "a", 0), ("is", "a", 1)))))
        each = (("each", "a"), LEAF, LEAF)
        self.assertEqual(lets_asks(form, ("given", "b"), (("sure", "yes", each),)), 0)
        self.refused((YES,), "sure", 0, form=form, sentence=("given", "b"))
        # Behind the ask there is nothing to split.
        self.refused((("ask", "a"), ("sure", "yes", each), YES), "sure", 1, form=form, sentence=("given", "b"))
        self.assertEqual(lets_asks(form, ("given", "b"), (("ask", "a"), YES, YES)), 1)

    def test_few(self):
        for many in range(8):
            self.refused(TREE[:many], "few", many)
        self.refused((), "few", 0, form=(), sentence=TRUE)

    def test_the_first_of_two_faults(self):
        self.refused((("ask", "c"), ("wrong",)), "ask", 0)
        self.refused((("sure", "no", ()), ("wrong",)), "sure", 0)
        self.refused(TREE + (NO, ("wrong",)), "more", 8)
        self.refused((("ask", "zz"),), "ask", 0)

    def test_names_of_the_arguments(self):
        self.assertEqual(lets_asks(form=(), sentence=TRUE, thing=(YES,)), 0)


def random_tree(dice, form, sentence, known):
    """Make an ASK TREE from the KNOWN by any asks, with its WORST."""
    word = is_sure(form, known, sentence)
    asked = may_ask(form, known)
    if word != "maybe" and (not asked or dice.random() < 0.8):
        cases = claim_cases(form, known, sure_claim(sentence, word))[1]
        return (("sure", word, cases),), len(known)
    name = dice.choice(asked)
    trees = [random_tree(dice, form, sentence, one) for one in knowns_behind(form, known, name)]
    return (("ask", name),) + tuple(row for tree, worst in trees for row in tree), max(worst for tree, worst in trees)


class Trees(Refusals):
    def test_by_random_forms(self):
        dice = random.Random(66)
        seen = {}
        for turn in range(150):
            form = lively_form(dice, dice.randint(1, 4))
            sentence = lively_sentence(dice, kinds_of(form), 2)
            tree, worst = random_tree(dice, form, sentence, ())
            self.assertEqual(lets_asks(form, sentence, tree), worst)
            seen[worst] = seen.get(worst, 0) + 1
            self.refused(tree[:-1], "few", len(tree) - 1, form=form, sentence=sentence)
            self.refused(tree + (NO,), "more", len(tree), form=form, sentence=sentence)
            at = dice.choice([at for at, row in enumerate(tree) if row[0] == "sure"])
            turned = ("sure", "yes" if tree[at][1] == "no" else "no", tree[at][2])
            self.refused(tree[:at] + (turned,) + tree[at + 1:], "sure", at, form=form, sentence=sentence)
        self.assertTrue(len(seen) >= 4, seen)


if __name__ == "__main__":
    unittest.main()
