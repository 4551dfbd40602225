"""Points [25] to [27]: fillings counted, in all and by answers."""

import random
import unittest

from askfolds.counting import by_answers, how_many
from askfolds.errors import NoName
from askfolds.kinds import answers
from askfolds.views import holds
from tests.helpers import FALSE, ODD_THINGS, TRUE, lively_form, lively_sentence, view_of, whole_stores

FORM = (
    ("n", ("number", -1, 2), TRUE),
    ("b", ("one", 3), ("least", (0, (("times", "n", 1),)), 1)),
    ("s", ("some", 2), ("is", "b", 0)),
)


def fillings_of(form):
    """Tell all FILLINGS: the VIEWS of all WHOLE STORES."""
    return sorted(set(view_of(form, store) for store in whole_stores(form)))


def counted(form, sentence):
    """Tell the FILLINGS against which the SENTENCE holds."""
    return [filling for filling in fillings_of(form) if holds(filling, sentence)]


class HowMany(unittest.TestCase):
    def test_the_empty_form(self):
        self.assertEqual(how_many((), TRUE), 1)
        self.assertEqual(how_many((), FALSE), 0)
        self.assertEqual(how_many((), ("least", (3, ()), 3)), 1)

    def test_always_and_never(self):
        # n of -1 and 0 hide the others; of 1 and 2 there are b of 1, of 2, and of 0 with four answers of s.
        self.assertEqual(how_many(FORM, TRUE), 2 + 2 * (2 + 4))
        self.assertEqual(how_many(FORM, FALSE), 0)
        self.assertEqual(how_many(FORM, ("not", TRUE)), 0)
        self.assertEqual(how_many(FORM, ("any", (("given", "n"), FALSE))), 14)

    def test_sentences(self):
        for sentence, told in (
            (("given", "b"), 12), (("given", "s"), 8), (("has", "s", 1), 4), (("is", "b", 0), 8), (("is", "b", 7), 0),
            (("not", ("given", "b")), 2), (("has", "s", 9), 0), (("all", (("has", "s", 0), ("has", "s", 1))), 2),
            (("least", (0, (("times", "n", 1), ("of", "b", (0, 5, 9)))), 6), 4),
        ):
            self.assertEqual(how_many(FORM, sentence), told, sentence)

    def test_one_that_hides_another(self):
        form = (
            ("a", ("one", 2), TRUE), ("b", ("one", 3), ("not", ("is", "a", 0))), ("c", ("one", 5), ("not", ("given", "b"))),
            ("d", ("one", 1), ("all", (("given", "b"), ("given", "c")))),
        )
        self.assertEqual(how_many(form, TRUE), 5 + 3)
        self.assertEqual(how_many(form, ("given", "d")), 0)
        self.assertEqual(how_many(form, ("not", ("given", "c"))), 3)

    def test_questions_that_never_show(self):
        form = (("a", ("one", 6), FALSE), ("b", ("some", 3), ("given", "a")), ("c", ("one", 4), ("not", ("given", "b"))))
        self.assertEqual(how_many(form, TRUE), 4)

    def test_many(self):
        ten = tuple((name, ("one", 2), TRUE) for name in "abcdefghij")
        self.assertEqual(how_many(ten, TRUE), 1024)
        total = (0, tuple(("of", name, (0, 1)) for name in "abcdefghij"))
        self.assertEqual(how_many(ten, ("least", total, 9)), 11)
        wide = (("a", ("number", -31, 32), TRUE), ("b", ("number", 1, 31), ("least", (0, (("times", "a", 1),)), 0)))
        self.assertEqual(how_many(wide, TRUE), 31 + 33 * 31)
        self.assertEqual(how_many(wide, ("least", (0, (("times", "a", 1), ("times", "b", -1))), 0)), sum(min(a, 31) for a in range(33)))
        chain = (("a", ("some", 4), TRUE),) + tuple(
            (name, ("one", 2), ("any", (("is", before, 1), ("has", "a", 3)))) for before, name in zip("bcdefgh", "cdefghi")
        )
        chain = chain[:1] + (("b", ("one", 2), TRUE),) + chain[1:]
        self.assertEqual(len(whole_stores(chain[:8])), 2048)
        self.assertEqual(how_many(chain[:8], ("given", "h")), len(counted(chain[:8], ("given", "h"))))

    def test_more_than_can_be_listed(self):
        form = tuple((name, ("number", 0, 63), TRUE) for name in "abcdefghij")
        self.assertEqual(how_many(form, ("least", (0, (("times", "c", 1),)), 32)), 64 ** 10 // 2)

    def test_names_of_the_arguments(self):
        self.assertEqual(how_many(form=(), sentence=TRUE), 1)


class ByAnswers(unittest.TestCase):
    def test_rows_of_each_sort(self):
        self.assertEqual(by_answers(FORM, TRUE, "n"), (0, ((-1, 1), (0, 1), (1, 6), (2, 6))))
        self.assertEqual(by_answers(FORM, TRUE, "b"), (2, ((0, 8), (1, 2), (2, 2))))
        self.assertEqual(by_answers(FORM, TRUE, "s"), (6, (((), 2), ((0,), 2), ((0, 1), 2), ((1,), 2))))

    def test_rows_of_zero(self):
        self.assertEqual(by_answers(FORM, FALSE, "b"), (0, ((0, 0), (1, 0), (2, 0))))
        self.assertEqual(by_answers(FORM, ("is", "b", 1), "s"), (2, (((), 0), ((0,), 0), ((0, 1), 0), ((1,), 0))))
        self.assertEqual(by_answers(FORM, ("given", "s"), "n"), (0, ((-1, 0), (0, 0), (1, 4), (2, 4))))
        self.assertEqual(by_answers((("a", ("number", -2, -2), FALSE),), TRUE, "a"), (1, ((-2, 0),)))

    def test_a_name_that_the_form_has_not(self):
        for form in (FORM, ()):
            for name in ("x", "", "N", "nn") + ODD_THINGS:
                with self.assertRaises(NoName) as caught:
                    by_answers(form, TRUE, name)
                self.assertIs(caught.exception.name, name)

    def test_by_all_fillings(self):
        dice = random.Random(25)
        for turn in range(150):
            form = lively_form(dice, dice.randint(1, 5))
            kinds = [question[:2] for question in form]
            sentence = lively_sentence(dice, kinds, 3)
            some = counted(form, sentence)
            self.assertEqual(how_many(form, sentence), len(some))
            for name, kind in kinds:
                rows = tuple((answer, sum((name, answer) in filling for filling in some)) for answer in answers(kind))
                hidden = sum(name not in dict(filling) for filling in some)
                self.assertEqual(by_answers(form, sentence, name), (hidden, rows))

    def test_counts_added(self):
        dice = random.Random(27)
        for turn in range(150):
            form = lively_form(dice, dice.randint(0, 4))
            kinds = [question[:2] for question in form]
            s, t = lively_sentence(dice, kinds, 2), lively_sentence(dice, kinds, 2)
            self.assertEqual(how_many(form, s) + how_many(form, ("not", s)), how_many(form, TRUE))
            both = how_many(form, ("all", (s, t))) + how_many(form, ("any", (s, t)))
            self.assertEqual(how_many(form, s) + how_many(form, t), both)
            for name, kind in kinds:
                hidden, rows = by_answers(form, s, name)
                self.assertEqual(hidden + sum(number for answer, number in rows), how_many(form, s))
                self.assertEqual([answer for answer, number in rows], sorted(answers(kind)))

    def test_names_of_the_arguments(self):
        self.assertEqual(by_answers(form=FORM[:1], sentence=TRUE, name="n")[0], 0)


if __name__ == "__main__":
    unittest.main()
