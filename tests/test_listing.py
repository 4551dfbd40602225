"""Point [28]: the rows and numbers of fillings."""

import random
import unittest

from askfolds.counting import how_many
from askfolds.errors import NoFilling
from askfolds.forms import kinds_of, names
from askfolds.listing import filling_at, number_of, row_of
from askfolds.showing import is_filling
from askfolds.views import holds
from tests.helpers import BIG, FALSE, TRUE, lively_form, lively_sentence, view_of, whole_stores

# b hides c, and c hides d: whoever shows, another one doesn't.
HIDING = (
    ("a", ("some", 2), TRUE),
    ("b", ("one", 3), ("not", ("has", "a", 1))),
    ("c", ("number", -1, 1), ("not", ("given", "b"))),
    ("d", ("one", 2), ("not", ("least", (0, (("times", "c", 1),)), 1))),
)


def rows_by_hand(form, sentence):
    """Tell the ROWS of all FILLINGS with the SENTENCE, rising, as points [4] and [28] say it."""
    places = {name: place for place, name in enumerate(names(form))}
    views = set(view_of(form, store) for store in whole_stores(form))
    return sorted(tuple((places[name], answer) for name, answer in one) for one in views if holds(one, sentence))


class Refused(unittest.TestCase):
    def refused(self, word, ask, *things):
        with self.assertRaises(NoFilling) as caught:
            ask(*things)
        self.assertEqual(caught.exception.word, word, things)


class Rows(unittest.TestCase):
    def test_told(self):
        self.assertEqual(row_of((), ()), ())
        self.assertEqual(row_of(HIDING, (("a", ()), ("b", 2), ("d", 1))), ((0, ()), (1, 2), (3, 1)))
        self.assertEqual(row_of(HIDING, (("a", (0, 1)), ("c", -1), ("d", 0))), ((0, (0, 1)), (2, -1), (3, 0)))

    def test_places_and_not_names(self):
        form = (("z", ("one", 2), TRUE), ("a", ("one", 2), ("is", "z", 1)), ("m", ("number", 5, 9), TRUE))
        self.assertEqual(row_of(form, (("z", 1), ("a", 0), ("m", 7))), ((0, 1), (1, 0), (2, 7)))
        self.assertEqual(row_of(form, (("z", 0), ("m", 7))), ((0, 0), (2, 7)))

    def test_names_of_the_arguments(self):
        self.assertEqual(row_of(form=(), filling=()), ())
        self.assertEqual(filling_at(form=(), sentence=TRUE, k=0), ())
        self.assertEqual(number_of(form=(), sentence=TRUE, filling=()), 0)


class Numbers(Refused):
    def test_the_empty_form(self):
        self.assertEqual(filling_at((), TRUE, 0), ())
        self.assertEqual(number_of((), TRUE, ()), 0)
        self.assertEqual(filling_at((), ("least", (4, ()), 4), 0), ())
        for k in (-1, 1, 2, BIG, -BIG):
            self.refused("number", filling_at, (), TRUE, k)
        self.refused("number", filling_at, (), FALSE, 0)
        self.refused("other", number_of, (), FALSE, ())

    def test_no_such_number(self):
        many = how_many(HIDING, TRUE)
        self.assertEqual(many, len(rows_by_hand(HIDING, TRUE)))
        for k in (-1, -2, -many, many, many + 1, BIG, -BIG, 10 * BIG - 1):
            self.refused("number", filling_at, HIDING, TRUE, k)
        self.assertEqual(filling_at(HIDING, TRUE, 0), (("a", ()), ("b", 0), ("d", 0)))
        self.assertEqual(filling_at(HIDING, TRUE, many - 1), (("a", (1,)), ("c", 1)))

    def test_a_sentence_that_never_holds(self):
        for sentence in (FALSE, ("all", (("given", "b"), ("given", "c"))), ("is", "b", 3)):
            for k in (-1, 0, 1):
                self.refused("number", filling_at, HIDING, sentence, k)

    def test_against_which_the_sentence_does_not_hold(self):
        filling = (("a", ()), ("b", 2), ("d", 1))
        self.refused("other", number_of, HIDING, FALSE, filling)
        self.refused("other", number_of, HIDING, ("is", "b", 1), filling)
        self.refused("other", number_of, HIDING, ("given", "c"), filling)
        self.assertEqual(number_of(HIDING, ("is", "b", 2), filling), 1)

    def test_numbers_by_the_sentence_alone(self):
        sentence = ("has", "a", 1)
        self.assertEqual(
            [filling_at(HIDING, sentence, k) for k in range(how_many(HIDING, sentence))],
            [(("a", chosen), ("c", c), *d) for chosen in ((0, 1), (1,)) for c in (-1, 0, 1) for d in ([(("d", 0),), (("d", 1),)] if c < 1 else [()])],
        )

    def check_all(self, form, sentence):
        """Look at the numbers of all FILLINGS with the SENTENCE, there and back."""
        rows = rows_by_hand(form, sentence)
        told = [filling_at(form, sentence, k) for k in range(len(rows))]
        self.assertEqual([row_of(form, one) for one in told], rows)
        self.assertEqual([number_of(form, sentence, one) for one in told], list(range(len(rows))))
        self.assertTrue(all(is_filling(form, one) and holds(one, sentence) for one in told))
        for k in (-1, len(rows)):
            self.refused("number", filling_at, form, sentence, k)

    def test_there_and_back(self):
        for sentence in (TRUE, FALSE, ("given", "b"), ("not", ("given", "b")), ("is", "d", 1), ("has", "a", 0)):
            self.check_all(HIDING, sentence)

    def test_there_and_back_by_random_forms(self):
        dice = random.Random(28)
        for turn in range(150):
            form = lively_form(dice, dice.randint(0, 4))
            sentence = lively_sentence(dice, kinds_of(form), 3)
            self.check_all(form, sentence)
            for filling in set(view_of(form, store) for store in whole_stores(form)):
                if not holds(filling, sentence):
                    self.refused("other", number_of, form, sentence, filling)

    def test_as_many_whole_stores_as_may_be(self):
        form = (
            ("a", ("number", -20, 43), TRUE), ("b", ("one", 5), ("least", (0, (("times", "a", 1),)), 0)),
            ("c", ("one", 6), ("any", (("is", "b", 4), ("not", ("given", "b"))))),
        )
        sentence = ("least", (0, (("times", "a", -1), ("of", "c", (0, 5, 9)))), -30)
        rows = rows_by_hand(form, sentence)
        for k in (0, 1, 7, len(rows) // 2, len(rows) - 2, len(rows) - 1):
            filling = filling_at(form, sentence, k)
            self.assertEqual(row_of(form, filling), rows[k])
            self.assertEqual(number_of(form, sentence, filling), k)
        self.refused("number", filling_at, form, sentence, len(rows))

    def test_many_fillings(self):
        form = tuple((name, ("one", 6), TRUE) for name in "abcdefghij")
        self.assertEqual(filling_at(form, TRUE, 6 ** 10 - 1), tuple((name, 5) for name in "abcdefghij"))
        self.assertEqual(number_of(form, ("is", "a", 1), filling_at(form, ("is", "a", 1), 12345)), 12345)


if __name__ == "__main__":
    unittest.main()
