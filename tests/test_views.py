"""Points [4] and [16]: what holds, what terms come to."""

import unittest

from askfolds.views import holds, value
from tests.helpers import BIG, FALSE, TRUE

PAIRS = (("n", -4), ("b", 1), ("s", (0, 2)), ("e", ()))


class Holds(unittest.TestCase):
    def check(self, sentence, told):
        self.assertIs(holds(PAIRS, sentence), told)
        self.assertIs(holds(PAIRS[::-1], sentence), told)
        self.assertIs(holds(PAIRS, ("not", sentence)), not told)

    def test_given(self):
        for name in ("n", "b", "s", "e"):
            self.check(("given", name), True)
        self.check(("given", "x"), False)

    def test_is(self):
        self.check(("is", "b", 1), True)
        self.check(("is", "b", 0), False)
        self.check(("is", "b", BIG), False)
        self.check(("is", "x", 0), False)

    def test_has(self):
        self.check(("has", "s", 0), True)
        self.check(("has", "s", 2), True)
        self.check(("has", "s", 1), False)
        self.check(("has", "s", 9), False)
        self.check(("has", "e", 0), False)
        self.check(("has", "x", 0), False)

    def test_least_just_met_and_missed(self):
        term = (2, (("times", "n", 3),))
        self.check(("least", term, -10), True)
        self.check(("least", term, -9), False)
        self.check(("least", (0, ()), 0), True)
        self.check(("least", (0, ()), 1), False)
        self.check(("least", (BIG, ()), BIG), True)
        self.check(("least", (BIG, ()), BIG + 1), False)

    def test_all_and_any(self):
        self.check(TRUE, True)
        self.check(FALSE, False)
        for sentences, every, one in (
            ((TRUE,), True, True), ((FALSE,), False, False), ((TRUE, FALSE), False, True), ((FALSE, TRUE), False, True),
            ((TRUE, TRUE), True, True), ((FALSE, FALSE), False, False),
            ((TRUE, TRUE, FALSE), False, True), ((FALSE, FALSE, TRUE), False, True),
        ):
            self.check(("all", sentences), every)
            self.check(("any", sentences), one)

    def test_within_one_another(self):
        inner = ("least", (0, (("where", ("not", ("has", "s", 1)), 5),)), 5)
        self.check(("all", (("any", (FALSE, inner)), ("not", ("is", "b", 0)))), True)

    def test_no_pairs(self):
        self.assertIs(holds((), ("given", "b")), False)
        self.assertIs(holds((), TRUE), True)

    def test_names_of_the_arguments(self):
        self.assertIs(holds(pairs=PAIRS, sentence=TRUE), True)
        self.assertEqual(value(pairs=PAIRS, term=(1, ())), 1)


class Values(unittest.TestCase):
    def test_the_documents_own(self):
        term = (0, (("of", "b", (5, -2)),))
        self.assertEqual(value((("b", 7),), term), 0)
        self.assertEqual(value((), term), 0)
        self.assertEqual(value((("b", (0, 1, 7)),), term), 3)

    def test_times(self):
        self.assertEqual(value(PAIRS, (1, (("times", "n", -3),))), 13)
        self.assertEqual(value(PAIRS, (1, (("times", "x", -3),))), 1)
        self.assertEqual(value((("n", BIG),), (0, (("times", "n", BIG),))), BIG * BIG)

    def test_of_one(self):
        for weights, told in (((), 0), ((7,), 0), ((7, -5), -5), ((7, 5, 3), 5)):
            self.assertEqual(value(PAIRS, (0, (("of", "b", weights),))), told)

    def test_of_some(self):
        for weights, told in (((), 0), ((7,), 7), ((7, 5), 7), ((7, 5, -9), -2), ((7, 5, -9, 100), -2)):
            self.assertEqual(value(PAIRS, (0, (("of", "s", weights),))), told)
            self.assertEqual(value(PAIRS, (3, (("of", "e", weights),))), 3)

    def test_where(self):
        self.assertEqual(value(PAIRS, (1, (("where", ("given", "b"), -7),))), -6)
        self.assertEqual(value(PAIRS, (1, (("where", ("given", "x"), -7),))), 1)

    def test_a_name_twice_counts_twice(self):
        self.assertEqual(value(PAIRS, (0, (("times", "n", 1), ("times", "n", 2)))), -12)
        self.assertEqual(value(PAIRS, (0, (("of", "b", (0, 2)), ("of", "b", (0, 2))))), 4)

    def test_no_parts(self):
        self.assertEqual(value(PAIRS, (-5, ())), -5)


if __name__ == "__main__":
    unittest.main()
