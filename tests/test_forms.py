"""Points [14] and [15]: forms and their questions."""

import random
import unittest

from askfolds.errors import FoldError, NoName
from askfolds.forms import is_form, kinds_of, names, place_of, question_of
from tests.helpers import BIG, FALSE, ODD_THINGS, TRUE, random_form, spoiled

FORM = (
    ("n", ("number", -3, 4), TRUE),
    ("b", ("one", 3), ("least", (0, (("times", "n", 1),)), 1)),
    ("s2", ("some", 4), ("all", (("is", "b", 0), ("given", "n")))),
    ("abcdefgh", ("one", BIG), ("has", "s2", 9)),
)


class IsForm(unittest.TestCase):
    def test_forms(self):
        for many in range(len(FORM) + 1):
            self.assertIs(is_form(FORM[:many]), True)

    def test_wishes_look_ahead_only(self):
        kind = ("one", 2)
        for form in (
            (("b", kind, ("given", "b")),), (("b", kind, ("given", "c")), ("c", kind, TRUE)), (("b", kind, ("given", "x")),),
            (("b", kind, ("not", ("all", (("is", "b", 0),)))),), FORM[::-1], FORM[1:],
            (("b", kind, ("least", (0, (("of", "c", ()),)), 0)), ("c", kind, TRUE)),
        ):
            self.assertIs(is_form(form), False, form)

    def test_sorts_that_are_not_told_for_their_place(self):
        for wish in (("is", "n", 0), ("has", "b", 0), ("is", "s2", 0), ("least", (0, (("of", "n", ()),)), 0)):
            self.assertIs(is_form(FORM[:3] + (("x", ("one", 1), wish),)), False, wish)

    def test_names_twice(self):
        self.assertIs(is_form(FORM + (("b", ("one", 3), TRUE),)), False)
        self.assertIs(is_form(FORM[:1] * 2), False)

    def test_wrong_questions(self):
        for question in (
            (), ("x",), ("x", ("one", 1)), ("x", ("one", 1), TRUE, ()), ["x", ("one", 1), TRUE], ("x", ("one", 0), TRUE),
            ("X", ("one", 1), TRUE), ("", ("one", 1), TRUE), ("abcdefghi", ("one", 1), TRUE), (["x"], ("one", 1), TRUE),
            ("x", ["one", 1], TRUE), ("x", ("one", True), TRUE), ("x", ("one", 1), None), ("x", ("one", 1), True),
            ("x", 1, TRUE, ()), (True, ("one", 1), TRUE), ("x", None, TRUE), ("x", TRUE, ("one", 1)),
            ("x", 2, TRUE, (("y", ("one", 1), TRUE),)),
        ) + ODD_THINGS:
            self.assertIs(is_form(FORM + (question,)), False, question)
            self.assertIs(is_form((question,)), False, question)

    def test_odd_things(self):
        for thing in ODD_THINGS:
            self.assertIs(is_form(thing), thing == (), thing)
        for thing in spoiled(FORM):
            self.assertIs(is_form(thing), False, thing)
        self.assertIs(is_form(list(FORM)), False)
        self.assertIs(is_form([]), False)

    def test_large_forms(self):
        form = tuple((f"q{number}", ("one", 2), TRUE) for number in range(600))
        self.assertIs(is_form(form), True)
        self.assertIs(is_form(form + (("q0", ("one", 2), TRUE),)), False)

    def test_random_forms(self):
        dice = random.Random(4)
        for turn in range(100):
            self.assertIs(is_form(random_form(dice, dice.randint(0, 6))), True)


class Looks(unittest.TestCase):
    def test_kinds_and_names(self):
        self.assertEqual(kinds_of(FORM), tuple(question[:2] for question in FORM))
        self.assertEqual(names(FORM), ("n", "b", "s2", "abcdefgh"))
        self.assertEqual(kinds_of(()), ())
        self.assertEqual(names(()), ())

    def test_questions_and_places(self):
        for place, question in enumerate(FORM):
            self.assertEqual(question_of(FORM, question[0]), question)
            self.assertEqual(place_of(FORM, question[0]), place)

    def test_no_such_name(self):
        for thing in ODD_THINGS + (["n"], ("n",), "N", "n ", "x", [["n"], True], 0, 1, True, False):
            for asked in (question_of, place_of):
                for form in (FORM, ()):
                    with self.assertRaises(NoName) as caught:
                        asked(form, thing)
                    self.assertIs(caught.exception.name, thing)
                    self.assertIsInstance(caught.exception, FoldError)

    def test_names_of_the_arguments(self):
        self.assertIs(is_form(thing=()), True)
        self.assertEqual(kinds_of(form=()), ())
        self.assertEqual(names(form=()), ())
        self.assertEqual(place_of(form=FORM, name="b"), 1)
        self.assertEqual(question_of(form=FORM, name="b"), FORM[1])


if __name__ == "__main__":
    unittest.main()
