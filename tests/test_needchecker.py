"""Points [67] and [68]: the checker of needs papers."""

import random
import unittest

from askfolds.asking import knowns_behind, may_ask
from askfolds.errors import NoPaper
from askfolds.forms import kinds_of
from askfolds.needchecker import lets_needs
from askfolds.showing import view
from askfolds.views import holds
from tests.helpers import BIG, FALSE, ODD_THINGS, TRUE, lively_form, lively_sentence, spoiled, whole_stores

FORM = (("a", ("one", 2), TRUE), ("b", ("one", 2), TRUE), ("s", ("some", 1), ("is", "a", 1)))
# Whether both are 1 is not sure before both are known; of a of 0 it is.
SENTENCE = ("all", (("is", "a", 1), ("is", "b", 1)))
YES = (("a", 1), ("b", 1), ("s", ()))
NO_B = (("a", 1), ("b", 0), ("s", ()))
NO_A = (("a", 0), ("b", 1), ("s", ()))
FIRST = ((), 2, YES, NO_B)
BEHIND_A = ((("a", 1),), 1, YES, NO_B)
BEHIND_B = ((("b", 1),), 1, YES, NO_A)
PAPER = (FIRST, BEHIND_A, BEHIND_B)


class Refusals(unittest.TestCase):
    def refused(self, thing, word, number, sentence=SENTENCE, form=FORM):
        with self.assertRaises(NoPaper) as caught:
            lets_needs(form, sentence, thing)
        self.assertEqual((caught.exception.word, caught.exception.number), (word, number), thing)


class Checker(Refusals):
    def test_let_by(self):
        self.assertEqual(lets_needs(FORM, SENTENCE, PAPER), 2)
        self.assertEqual(lets_needs(FORM, SENTENCE, (FIRST, BEHIND_B, BEHIND_A)), 2)
        self.assertEqual(lets_needs(FORM, SENTENCE, (((), 1, YES, NO_A),)), 1)
        self.assertEqual(lets_needs(FORM, SENTENCE, ()), 0)
        self.assertEqual(lets_needs((), TRUE, ()), 0)
        self.assertEqual(lets_needs((), FALSE, ()), 0)
        self.assertEqual(lets_needs(FORM, ("not", SENTENCE), tuple((known, n, no, yes) for known, n, yes, no in PAPER)), 2)

    def test_rows_twice_and_rows_that_nobody_needs(self):
        self.assertEqual(lets_needs(FORM, SENTENCE, PAPER + PAPER), 2)
        self.assertEqual(lets_needs(FORM, SENTENCE, PAPER + (((("s", ()),), 1, YES, NO_A),)), 2)
        self.assertEqual(lets_needs(FORM, SENTENCE, (((), 1, YES, NO_A), FIRST, BEHIND_A, BEHIND_B)), 1)

    def test_shape(self):
        for thing in ODD_THINGS + (list(PAPER), "needs", BIG):
            if not isinstance(thing, tuple):
                self.refused(thing, "shape", -1)

    def test_row(self):
        rows = ODD_THINGS + (
            list(FIRST), FIRST[:3], FIRST + ((),), ([], 2, YES, NO_B), ((), True, YES, NO_B), ((), 0, YES, NO_B), ((), -1, YES, NO_B), ((), False, YES, NO_B),
            ((), None, YES, NO_B), ((), "2", YES, NO_B), ((), 2, YES[:2], NO_B), ((), 2, YES, NO_B[:2]), ((), 2, list(YES), NO_B), ((), 2, YES, None), ((), 2, (), NO_B),
            ((("b", 1), ("a", 1)), 1, YES, NO_A), ((("a", 2),), 1, YES, NO_A), ((("x", 1),), 1, YES, NO_A), ((("a", True),), 1, YES, NO_A), (None, 1, YES, NO_A),
            ((), 2, YES[::-1], NO_B), ((), 2, YES + (("x", 0),), NO_B), ((), -BIG, YES, NO_B),
        )
        for row in rows:
            self.refused((row,), "row", 0)
            self.refused(PAPER + (row,), "row", 3)
            self.refused((FIRST, row, BEHIND_B), "row", 1)
            self.refused((row, None), "row", 0)
        for row in spoiled(BEHIND_A):
            with self.assertRaises(NoPaper) as caught:
                lets_needs(FORM, SENTENCE, (FIRST, row, BEHIND_B))
            self.assertEqual((caught.exception.word, caught.exception.number), ("row", 1))

    def test_rows_of_another_form(self):
        self.refused(PAPER, "row", 0, form=FORM[:2])
        self.refused((((), 1, (), ()),), "apart", 0, form=(), sentence=TRUE)
        self.refused((((), 1, (), ()),), "apart", 0, form=(), sentence=FALSE)

    def test_begin(self):
        self.refused((BEHIND_A,), "begin", -1)
        self.refused((BEHIND_A, FIRST, BEHIND_B), "begin", -1)
        # Rows that are none go ahead of it, all else comes behind it.
        self.refused((BEHIND_A, None), "row", 1)
        self.refused((((("a", 1),), 5, NO_B, YES), FIRST), "begin", -1)

    def test_apart(self):
        for row in (
            ((), 2, NO_B, NO_B), ((), 2, YES, YES), ((), 2, NO_B, YES), ((("a", 0),), 1, YES, NO_A), ((("a", 1),), 1, YES, NO_A), ((("b", 0),), 1, YES, NO_B),
            ((("a", 0),), 1, NO_A, NO_A), ((("s", (0,)),), 1, YES, NO_A), ((("a", 1), ("b", 1)), 1, YES, NO_B),
        ):
            self.refused(PAPER + (row,), "apart", 3)
            if row[0] == ():
                self.refused((row,) + PAPER, "apart", 0)
        self.refused(PAPER, "apart", 0, sentence=TRUE)
        self.refused(PAPER, "apart", 0, sentence=FALSE)
        self.refused(PAPER, "apart", 0, sentence=("not", SENTENCE))

    def test_by_the_views_of_yes_and_no(self):
        # What is in a WHOLE STORE and doesn't SHOW isn't seen.
        form = (("a", ("one", 2), TRUE), ("b", ("one", 2), ("is", "a", 1)))
        yes, hidden, no = (("a", 1), ("b", 1)), (("a", 0), ("b", 1)), (("a", 1), ("b", 0))
        self.assertEqual(lets_needs(form, ("is", "b", 1), (((), 1, yes, hidden),)), 1)
        self.refused((((), 1, hidden, no),), "apart", 0, form=form, sentence=("is", "b", 1))

    def test_needs(self):
        self.refused((FIRST,), "needs", 0)
        self.refused((FIRST, BEHIND_A), "needs", 0)
        self.refused((FIRST, BEHIND_B), "needs", 0)
        self.refused((((), 3, YES, NO_B),) + PAPER[1:], "needs", 0)
        self.refused((((), BIG, YES, NO_B),) + PAPER[1:], "needs", 0)
        self.refused((FIRST, ((("a", 1),), 2, YES, NO_B), BEHIND_B), "needs", 1)
        self.refused((FIRST, BEHIND_A, ((("b", 1),), 3, YES, NO_A)), "needs", 2)
        # A row of two answers more is none of one answer more.
        self.refused((FIRST, BEHIND_A, ((("b", 1), ("s", ())), 1, YES, NO_A)), "needs", 0)

    def test_an_n_that_is_more_than_needed(self):
        form = tuple((name, ("one", 2), TRUE) for name in "abc")
        parity = ("any", tuple(("all", tuple(("is", name, one) if one else ("not", ("is", name, 1)) for name, one in zip("abc", bits))) for bits in ((1, 0, 0), (0, 1, 0), (0, 0, 1), (1, 1, 1))))
        rows = tuple(self.row_of_parity(form, parity, known, 3 - len(known)) for known in self.knowns(form) if len(known) < 3)
        self.assertEqual(lets_needs(form, parity, rows), 3)
        self.refused(((rows[0][0], 4) + rows[0][2:],) + rows[1:], "needs", 0, form=form, sentence=parity)
        # Rows with a greater n than is asked for do as well.
        self.assertEqual(lets_needs(form, parity, ((rows[0][0], 2) + rows[0][2:],) + rows[1:]), 2)

    def knowns(self, form):
        """Tell all KNOWNS, () first."""
        found = [()]
        for known in found:
            found += [one for name in may_ask(form, known) for one in knowns_behind(form, known, name) if one not in found]
        return found

    def row_of_parity(self, form, sentence, known, number):
        stores = [store for store in whole_stores(form) if set(known) <= set(store)]
        yes = [store for store in stores if holds(view(form, store), sentence)]
        no = [store for store in stores if not holds(view(form, store), sentence)]
        return known, number, yes[0], no[0]

    def test_only_names_that_may_be_asked(self):
        form = (("a", ("one", 2), TRUE), ("b", ("one", 2), ("is", "a", 1)), ("x", ("one", 2), FALSE))
        yes, no = (("a", 1), ("b", 1), ("x", 0)), (("a", 1), ("b", 0), ("x", 0))
        paper = (((), 2, yes, no), ((("a", 1),), 1, yes, no))
        self.assertEqual(lets_needs(form, ("is", "b", 1), paper), 2)
        # Where nothing may be asked n is as great as one likes; but nobody is unsure there.
        self.refused(paper + (((("a", 0),), 9, yes, no),), "apart", 2, form=form, sentence=("is", "b", 1))

    def test_the_first_of_two_faults(self):
        self.refused((FIRST, ((("a", 0),), 2, YES, NO_A)), "needs", 0)
        self.refused((((), 2, YES, YES), ((("a", 0),), 2, YES, NO_A)), "apart", 0)
        self.refused((((), 2, YES, YES), None), "row", 1)
        self.refused((((), 9, NO_A, YES),), "apart", 0)

    def test_names_of_the_arguments(self):
        self.assertEqual(lets_needs(form=(), sentence=TRUE, thing=()), 0)


class WhoeverWroteIt(Refusals):
    def least_worst(self, form, sentence, known):
        """Tell how many asks are needed from the KNOWN, as point [64] says it."""
        words = set(holds(view(form, store), sentence) for store in whole_stores(form) if set(known) <= set(store))
        if len(words) == 1:
            return 0
        return 1 + min(max(self.least_worst(form, sentence, one) for one in knowns_behind(form, known, name)) for name in may_ask(form, known))

    def test_nobody_is_sure_with_fewer(self):
        dice = random.Random(68)
        seen = {}
        for turn in range(120):
            form = lively_form(dice, dice.randint(1, 3))
            sentence = lively_sentence(dice, kinds_of(form), 2)
            fewest = self.least_worst(form, sentence, ())
            for number in range(1, fewest + 2):
                paper = self.written(form, sentence, number)
                if number <= fewest:
                    self.assertEqual(lets_needs(form, sentence, paper), number)
                else:
                    with self.assertRaises(NoPaper) as caught:
                        lets_needs(form, sentence, paper)
                    self.assertIn(caught.exception.word, ("apart", "needs"))
            seen[fewest] = seen.get(fewest, 0) + 1
        self.assertTrue(len(seen) >= 3, seen)

    def written(self, form, sentence, number):
        """Write a paper with this n, true or not: a row for each KNOWN, with the n that it needs at most."""
        waiting, rows = [()], []
        while waiting:
            known = waiting.pop(0)
            stores = [store for store in whole_stores(form) if set(known) <= set(store)]
            yes = [store for store in stores if holds(view(form, store), sentence)]
            no = [store for store in stores if store not in yes]
            n = number if known == () else min(number - len(known), self.least_worst(form, sentence, known))
            if known == () or n >= 1:
                rows.append((known, n, (yes or no)[0], (no or yes)[0]))
                waiting += [one for name in may_ask(form, known) for one in knowns_behind(form, known, name)]
        return tuple(rows)


if __name__ == "__main__":
    unittest.main()
