"""Points [2], [10] and [11]: numbers, names, kinds, answers."""

import itertools
import unittest

from askfolds.kinds import answers, is_answer, is_kind, is_name, is_number, size
from tests.helpers import BIG, ODD_THINGS, deep, spoiled

KINDS = (("one", 1), ("one", 6), ("number", -3, 4), ("number", 5, 5), ("some", 1), ("some", 4))


class Numbers(unittest.TestCase):
    def test_numbers(self):
        for thing in (0, 1, -1, BIG, -BIG):
            self.assertIs(is_number(thing), True)

    def test_no_numbers(self):
        for thing in (True, False, None, "", "1", (), (1,), [1], [], deep(1, 20)):
            self.assertIs(is_number(thing), False)


class Names(unittest.TestCase):
    def test_names(self):
        for thing in ("a", "z", "a0", "z9", "abcdefgh", "a2345678", "given"):
            self.assertIs(is_name(thing), True)

    def test_no_names_by_length(self):
        for thing in ("", "abcdefghi", "a" * 4000):
            self.assertIs(is_name(thing), False)

    def test_a_wrong_sign_at_each_place(self):
        for many in (1, 2, 5, 8):
            for at in range(many):
                for sign in " A_Z-./=~@[`{:\n":
                    self.assertIs(is_name("a" * at + sign + "a" * (many - at - 1)), False)

    def test_a_figure_anywhere_but_first(self):
        for many in (1, 2, 8):
            for at in range(many):
                for figure in "059":
                    name = "a" * at + figure + "a" * (many - at - 1)
                    self.assertIs(is_name(name), at > 0)

    def test_letters_of_other_scripts(self):
        for sign in ("\u00e4", "\u0663", "\u00b2"):
            self.assertIs(is_name("a" + sign), False)
            self.assertIs(is_name(sign), False)

    def test_no_texts(self):
        for thing in (None, True, 0, (), [], ["a"], ("a",), [["a"]]):
            self.assertIs(is_name(thing), False)


class Kinds(unittest.TestCase):
    def test_kinds(self):
        for thing in KINDS + (("one", BIG), ("some", BIG), ("number", -BIG, BIG), ("number", BIG, BIG)):
            self.assertIs(is_kind(thing), True)

    def test_no_kinds(self):
        for thing in (
            ("one", 0), ("one", -1), ("some", 0), ("some", -1), ("number", 1, 0), ("number", BIG, -BIG),
            ("one",), ("one", 1, 1), ("some", 1, 1), ("number", 1), ("number", 1, 1, 1), ("number",), ("two", 1),
            ("", 1), (1, 1), ("one", True), ("some", True), ("number", False, True), ("number", 0, True),
            ("number", False, 0), ("one", "1"), ("one", (1,)), (["one"], 1), ["one", 1], ("one", None), "one",
            (("one",), 1), ("One", 1), ("number", None, None),
        ):
            self.assertIs(is_kind(thing), False, thing)

    def test_odd_things(self):
        for thing in ODD_THINGS:
            self.assertIs(is_kind(thing), False, thing)
        for kind in KINDS:
            for thing in spoiled(kind):
                self.assertIs(is_kind(thing), False, thing)


class Answers(unittest.TestCase):
    def test_the_documents_own(self):
        self.assertEqual(answers(("some", 2)), ((), (0,), (0, 1), (1,)))

    def test_answers_rise_and_are_as_many_as_the_size(self):
        for kind in KINDS + (("one", 64), ("number", 0, 63), ("number", -32, 31), ("number", BIG, BIG + 63), ("some", 6)):
            told = answers(kind)
            self.assertIsInstance(told, tuple)
            self.assertEqual(list(told), sorted(set(told)))
            self.assertEqual(len(told), size(kind))
            self.assertTrue(all(is_answer(kind, answer) is True for answer in told))

    def test_answers_by_sort(self):
        self.assertEqual(answers(("one", 3)), (0, 1, 2))
        self.assertEqual(answers(("one", 1)), (0,))
        self.assertEqual(answers(("number", -1, 1)), (-1, 0, 1))
        self.assertEqual(answers(("some", 1)), ((), (0,)))
        every = [some for many in range(5) for some in itertools.combinations(range(4), many)]
        self.assertEqual(answers(("some", 4)), tuple(sorted(every)))

    def test_sizes(self):
        self.assertEqual(size(("one", BIG)), BIG)
        self.assertEqual(size(("number", -BIG, BIG)), 2 * BIG + 1)
        self.assertEqual(size(("number", BIG, BIG)), 1)
        self.assertEqual([size(("some", many)) for many in (1, 2, 3, 4)], [2, 4, 8, 16])

    def test_answers_of_one(self):
        for thing in (0, 1, BIG - 1):
            self.assertIs(is_answer(("one", BIG), thing), True)
        for thing in (-1, 2, BIG, True, False, None, "0", (0,), [0], ()):
            self.assertIs(is_answer(("one", 2), thing), False)

    def test_answers_of_number(self):
        for thing in (-3, 0, 4):
            self.assertIs(is_answer(("number", -3, 4), thing), True)
        for thing in (-4, 5, BIG, -BIG, True, False, None, "0", (0,), [0]):
            self.assertIs(is_answer(("number", -3, 4), thing), False)

    def test_answers_of_some(self):
        for thing in ((), (0,), (0, 2), (0, 1, 2), (2,)):
            self.assertIs(is_answer(("some", 3), thing), True)
        for thing in (
            (3,), (-1,), (0, 0), (1, 0), (0, 1, 1), (0, 3), (True,), (0, True), (False, 1), [], [0], ([0],), ((0,),),
            0, 1, True, None, "", ("0",), (None,), (0, 1, 2, 3), (BIG,),
        ):
            self.assertIs(is_answer(("some", 3), thing), False, thing)

    def test_the_same_is_told_again(self):
        before = [(answers(kind), size(kind)) for kind in KINDS]
        self.assertEqual([(answers(kind), size(kind)) for kind in reversed(KINDS)], before[::-1])

    def test_names_of_the_arguments(self):
        self.assertIs(is_number(thing=1), True)
        self.assertIs(is_name(thing="a"), True)
        self.assertIs(is_kind(thing=("one", 1)), True)
        self.assertIs(is_answer(kind=("one", 1), thing=0), True)
        self.assertEqual(size(kind=("one", 1)), 1)
        self.assertEqual(answers(kind=("one", 1)), (0,))


if __name__ == "__main__":
    unittest.main()
