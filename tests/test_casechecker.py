"""Points [40] to [43]: the checker of cases."""

import random
import unittest

from askfolds.boxes import whole
from askfolds.casechecker import lets_cases
from askfolds.errors import NoPaper
from askfolds.views import holds, value
from tests.helpers import (
    BIG, FALSE, ODD_THINGS, TRUE, full_cases, random_form, random_sentence, random_term, view_of, whole_stores
)

FORM = (
    ("n", ("number", -3, 4), TRUE),
    ("b", ("one", 3), ("least", (0, (("times", "n", 1),)), 1)),
    ("s", ("some", 2), ("is", "b", 0)),
)
NEVER = ((0, ()), 1)
# b is given for n from 1 on alone: no WHOLE STORE has n of 0 or less and b.
CLAIM = (("all", (("not", ("least", (0, (("times", "n", 1),)), 1)), ("given", "b"))), *NEVER)
LEAF = ("leaf",)


class Refusals(unittest.TestCase):
    def refused(self, thing, word, number, known=(), claim=CLAIM, form=FORM):
        with self.assertRaises(NoPaper) as caught:
            lets_cases(form, known, claim, thing)
        self.assertEqual((caught.exception.word, caught.exception.number), (word, number), thing)

    def test_let_by(self):
        self.assertIs(lets_cases(FORM, (), CLAIM, (("cut", "n", 1), LEAF, LEAF)), True)
        self.assertIs(lets_cases(FORM, (), (FALSE, *NEVER), (LEAF,)), True)
        self.assertIs(lets_cases((), (), (TRUE, (3, ()), 3), (LEAF,)), True)

    def test_shape(self):
        for thing in (None, True, 0, "leaf", [], [LEAF], BIG):
            self.refused(thing, "shape", -1)

    def test_row(self):
        for row in (
            (), "leaf", ["leaf"], ("leaf", 0), ("leaf", "n"), ("each",), ("each", "b", 0), ("cut", "n"), ("cut", "n", 0, 0),
            ("with", "s"), ("cut", "n", True), ("with", "s", False), ("with", "s", "0"), ("cut", "n", (1,)), ("cut", ["n"], 1),
            ("cut", "N", 1), ("each", ""), ("each", True), ("each", "abcdefghi"), ("split", "n"), (LEAF,), (None,), (True,),
            ("each", ["b"]), ["each", "b"], ("each", ("b",)), ("cut", "n", None), ("Leaf",), (["leaf"],),
        ) + tuple(thing for thing in ODD_THINGS if thing != LEAF):
            self.refused((row,), "row", 0)
            self.refused((("cut", "n", 1), row), "row", 1)
            self.refused((("cut", "n", 1), LEAF, LEAF, row), "row", 3)

    def test_more(self):
        for row in (LEAF, ("cut", "n", 1), ("each", "x"), ("with", "s", BIG)):
            self.refused((("cut", "n", 1), LEAF, LEAF, row), "more", 3)
            self.refused((LEAF, row), "more", 1, claim=(FALSE, *NEVER))

    def test_box(self):
        for row in (
            ("cut", "x", 1), ("each", "x"), ("with", "x", 0), ("cut", "b", 1), ("cut", "s", 1), ("each", "n"), ("each", "s"),
            ("with", "n", 0), ("with", "b", 0), ("cut", "n", -3), ("cut", "n", 5), ("cut", "n", BIG), ("with", "s", 2),
            ("with", "s", -1), ("with", "s", BIG),
        ):
            self.refused((row,), "box", 0)
            self.refused((("each", "b"), row), "box", 1)

    def test_box_of_known_answers(self):
        self.refused((("cut", "n", 1),), "box", 0, known=(("n", 1),))
        self.refused((("each", "b"),), "box", 0, known=(("b", 0),))
        self.refused((("with", "s", 0),), "box", 0, known=(("s", ()),))

    def test_leaf(self):
        self.refused((LEAF,), "leaf", 0)
        self.refused((("cut", "n", 2), LEAF, LEAF), "leaf", 1)
        self.refused((("cut", "n", 0), LEAF, LEAF), "leaf", 2)
        self.refused((("each", "b"), ("cut", "n", 1), LEAF, LEAF, LEAF), "leaf", 4)

    def test_few(self):
        self.refused((), "few", 0)
        self.refused((), "few", 0, form=(), claim=(FALSE, *NEVER))
        self.refused((("cut", "n", 1),), "few", 1)
        self.refused((("cut", "n", 1), LEAF), "few", 2)
        self.refused((("each", "b"), ("cut", "n", 1), LEAF, LEAF), "few", 4)

    def test_the_first_of_two_faults(self):
        self.refused((("each", "x"), ("wrong",)), "box", 0)
        self.refused((("cut", "n", 1), LEAF, ("wrong",), ("each", "x")), "row", 2)
        self.refused((LEAF, LEAF), "leaf", 0)
        self.refused((LEAF, ("wrong",)), "leaf", 0)
        self.refused((("cut", "n", 1), LEAF, LEAF, ("wrong",), LEAF), "row", 3)
        self.refused((("cut", "n", 1), LEAF, LEAF, LEAF, ("wrong",)), "more", 3)

    def test_names_of_the_arguments(self):
        self.assertIs(lets_cases(form=(), known=(), claim=(FALSE, *NEVER), thing=(LEAF,)), True)


class Orders(unittest.TestCase):
    def leaf_that_fails(self, claim, thing):
        with self.assertRaises(NoPaper) as caught:
            lets_cases(FORM, (), claim, thing)
        self.assertEqual(caught.exception.word, "leaf")
        return caught.exception.number

    def test_the_part_told_first_is_taken_next(self):
        # Only the BOX of this SENTENCE is not right: its leaf tells in which order the BOXES went.
        cut = (("cut", "n", 2), LEAF, LEAF)
        self.assertEqual(self.leaf_that_fails((("least", (0, (("times", "n", 1),)), 2), *NEVER), cut), 2)
        self.assertEqual(self.leaf_that_fails((("least", (0, (("times", "n", -1),)), -1), *NEVER), cut), 1)
        for answer in (0, 1, 2):
            self.assertEqual(self.leaf_that_fails((("is", "b", answer), *NEVER), (("each", "b"), LEAF, LEAF, LEAF)), 1 + answer)
        with_rows = (("with", "s", 1), LEAF, LEAF)
        self.assertEqual(self.leaf_that_fails((("has", "s", 1), *NEVER), with_rows), 2)
        without = (("least", (0, (("where", ("has", "s", 1), -1),)), 0), *NEVER)
        self.assertEqual(self.leaf_that_fails(without, with_rows), 1)

    def test_a_box_that_is_split_again_goes_ahead_of_those_that_wait(self):
        rows = (("each", "b"), LEAF, ("cut", "n", 0), LEAF, LEAF, LEAF)
        low = ("not", ("least", (0, (("times", "n", 1),)), 0))
        self.assertEqual(self.leaf_that_fails((("is", "b", 2), *NEVER), rows), 5)
        self.assertEqual(self.leaf_that_fails((("is", "b", 1), *NEVER), rows), 4)
        self.assertEqual(self.leaf_that_fails((low, *NEVER), rows), 1)


class Right(unittest.TestCase):
    def test_the_low_just_met(self):
        term = (2, (("times", "n", 1),))
        self.assertIs(lets_cases(FORM, (), (TRUE, term, -1), (LEAF,)), True)
        with self.assertRaises(NoPaper):
            lets_cases(FORM, (), (TRUE, term, 0), (LEAF,))
        self.assertIs(lets_cases(FORM, (("n", 0),), (TRUE, term, 2), (LEAF,)), True)

    def test_known_answers_that_do_not_show(self):
        known = (("n", 0), ("b", 0), ("s", (0,)))
        self.assertIs(lets_cases(FORM, known, (("given", "b"), *NEVER), (LEAF,)), True)
        self.assertIs(lets_cases(FORM, (("b", 1),), (("given", "s"), *NEVER), (LEAF,)), True)
        shown = (("n", 1),) + known[1:]
        with self.assertRaises(NoPaper):
            lets_cases(FORM, shown, (("given", "b"), *NEVER), (LEAF,))
        self.assertIs(lets_cases(FORM, shown, (("not", ("has", "s", 0)), *NEVER), (LEAF,)), True)

    def test_many_rows(self):
        form = (("n", ("number", 0, 999), TRUE),)
        rows = tuple(row for number in range(1, 1000) for row in (("cut", "n", number), LEAF)) + (LEAF,)
        self.assertIs(lets_cases(form, (), (FALSE, *NEVER), rows), True)
        with self.assertRaises(NoPaper) as caught:
            lets_cases(form, (), (("least", (0, (("times", "n", 1),)), 999), *NEVER), rows)
        self.assertEqual((caught.exception.word, caught.exception.number), ("leaf", 1998))


class Promise(unittest.TestCase):
    def test_full_cases_are_let_by_just_where_the_claim_holds(self):
        dice = random.Random(6)
        told = []
        for turn in range(200):
            form = random_form(dice, dice.randint(1, 3))
            kinds = [question[:2] for question in form]
            stores = whole_stores(form)
            known = tuple(pair for pair in dice.choice(stores) if dice.random() < 0.3)
            claim = (random_sentence(dice, kinds, 2), random_term(dice, kinds, 2), dice.randint(-6, 2))
            views = [view_of(form, store) for store in stores if set(known) <= set(store)]
            so = all(value(view, claim[1]) >= claim[2] for view in views if holds(view, claim[0]))
            told.append(so)
            cases = full_cases(form, whole(form, known))
            if so:
                self.assertIs(lets_cases(form, known, claim, cases), True)
            else:
                with self.assertRaises(NoPaper) as caught:
                    lets_cases(form, known, claim, cases)
                self.assertEqual(caught.exception.word, "leaf")
        self.assertEqual(set(told), {True, False})


if __name__ == "__main__":
    unittest.main()
