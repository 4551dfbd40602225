"""Points [74] and [77]: folds unfolded."""

import random
import unittest

from askfolds.asking import is_sure, may_ask
from askfolds.comparing import alike
from askfolds.counting import how_many
from askfolds.folds import is_fold_store, spots
from askfolds.foldviews import fold_aside, fold_holds, fold_opened, fold_shown, fold_value
from askfolds.forms import is_form, kinds_of, names
from askfolds.orders import ahead
from askfolds.showing import aside, is_store, opened, shown, view
from askfolds.terms import is_sentence, is_term
from askfolds.unfolding import flat_sentence, flat_store, flat_term, unfolded
from askfolds.views import holds, value
from tests.helpers import FALSE, TRUE, lively_sentence, random_fold, random_fold_store, random_term, seen_behind, whole_stores


def least(number, *parts):
    """A SENTENCE about a TERM of these PARTS."""
    return ("least", (0, parts), number)


def there(block, place):
    """The SENTENCE that there is a PIECE at this place."""
    return ("least", (0, (("times", block, 1),)), place + 1)


N = ("n", ("number", -3, 9), TRUE)
AGED = ("all", (least(18, ("times", "age", 1), ("times", "n", 2), ("where", ("given", "age"), 3)), ("not", ("given", "kid"))))
KID = ("kid", 2, ("given", "n"), (("age", ("number", 0, 99), TRUE), ("job", ("one", 3), AGED)))
PARTS = (
    ("times", "age", 5), ("where", ("any", (("is", "job", 1), ("given", "n"), ("given", "kid"))), 7), ("of", "job", (1, 2)),
)
PIECES = ("pieces", "kid", (4, PARTS))
FLAT_PARTS = (
    ("where", there("kid", 0), 4), ("times", "age0", 5),
    ("where", ("all", (there("kid", 0), ("any", (("is", "job0", 1), ("given", "n"), ("given", "kid"))))), 7), ("of", "job0", (1, 2)),
    ("where", there("kid", 1), 4), ("times", "age1", 5),
    ("where", ("all", (there("kid", 1), ("any", (("is", "job1", 1), ("given", "n"), ("given", "kid"))))), 7), ("of", "job1", (1, 2)),
)
TAX = ("tax", ("one", 2), least(3, ("times", "n", 1), PIECES, ("times", "kid", 2)))
FOLD = (N, KID, TAX)


class Unfolded(unittest.TestCase):
    def test_row_by_row(self):
        def aged(figure):
            name = f"age{figure}"
            wish = least(18, ("times", name, 1), ("times", "n", 2), ("where", ("given", name), 3))
            return ("all", (wish, ("not", ("given", "kid"))))
        self.assertEqual(unfolded(FOLD), (
            N, ("kid", ("number", 0, 2), ("given", "n")),
            ("age0", ("number", 0, 99), ("all", (there("kid", 0), TRUE))), ("job0", ("one", 3), ("all", (there("kid", 0), aged(0)))),
            ("age1", ("number", 0, 99), ("all", (there("kid", 1), TRUE))), ("job1", ("one", 3), ("all", (there("kid", 1), aged(1)))),
            ("tax", ("one", 2), ("least", (0, (("times", "n", 1),) + FLAT_PARTS + (("times", "kid", 2),)), 3)),
        ))

    def test_without_blocks_and_without_bodies(self):
        self.assertEqual(unfolded(()), ())
        self.assertEqual(unfolded((N,)), (N,))
        fold = (("kid", 3, FALSE, ()), ("pet", 1, least(1, ("pieces", "kid", (2, ()))), ()))
        self.assertEqual(unfolded(fold), (
            ("kid", ("number", 0, 3), FALSE),
            ("pet", ("number", 0, 1), least(1, *[("where", there("kid", place), 2) for place in range(3)])),
        ))

    def test_several_blocks(self):
        pet = ("pet", 2, least(1, PIECES), (("tail", ("one", 2), ("given", "kid")),))
        told = unfolded((N, KID, pet))
        self.assertEqual(names(told), ("n", "kid", "age0", "job0", "age1", "job1", "pet", "tail0", "tail1"))
        self.assertEqual(told[6], ("pet", ("number", 0, 2), ("least", (0, FLAT_PARTS), 1)))
        self.assertEqual(told[8], ("tail1", ("one", 2), ("all", (there("pet", 1), ("given", "kid")))))
        both = (0, (("pieces", "pet", (0, (("of", "tail", (1,)),))), PIECES))
        self.assertEqual(flat_term((N, KID, pet), both), (0, (
            ("where", there("pet", 0), 0), ("of", "tail0", (1,)), ("where", there("pet", 1), 0), ("of", "tail1", (1,)),
        ) + FLAT_PARTS))

    def test_terms(self):
        for term, told in (
            ((3, ()), (3, ())), ((3, (PIECES,)), (3, FLAT_PARTS)), ((-1, (PIECES, PIECES)), (-1, FLAT_PARTS + FLAT_PARTS)),
            ((0, (("pieces", "kid", (0, ())),)), (0, (("where", there("kid", 0), 0), ("where", there("kid", 1), 0)))),
            ((0, (("where", least(2, PIECES), 9), ("of", "tax", (1, 2)))), (0, (("where", ("least", (0, FLAT_PARTS), 2), 9), ("of", "tax", (1, 2))))),
            ((0, (("where", ("not", least(1, ("where", least(2, PIECES), 9))), 8),)),
             (0, (("where", ("not", least(1, ("where", ("least", (0, FLAT_PARTS), 2), 9))), 8),))),
        ):
            self.assertEqual(flat_term(FOLD, term), told)

    def test_sentences(self):
        for sentence in (
            TRUE, FALSE, ("given", "kid"), ("is", "tax", 1), ("not", ("all", (("given", "n"), ("any", ())))), least(1, ("times", "kid", 1)),
        ):
            self.assertEqual(flat_sentence(FOLD, sentence), sentence)
        self.assertEqual(flat_sentence(FOLD, ("any", (TRUE, ("not", least(1, PIECES))))), ("any", (TRUE, ("not", ("least", (0, FLAT_PARTS), 1)))))

    def test_stores(self):
        for store, told in (
            (((), ((),)), (("kid", 0),)),
            (((("n", 1), ("tax", 0)), ((),)), (("n", 1), ("kid", 0), ("tax", 0))),
            (((("tax", 0),), (((), (("age", 7), ("job", 2))),)), (("kid", 2), ("age1", 7), ("job1", 2), ("tax", 0))),
            (((("n", 1),), ((((("job", 0)),), (("age", 7),)),)), (("n", 1), ("kid", 2), ("job0", 0), ("age1", 7))),
        ):
            self.assertTrue(is_fold_store(FOLD, store))
            self.assertEqual(flat_store(FOLD, store), told)
        self.assertEqual(flat_store((), ((), ())), ())

    def test_names_of_the_arguments(self):
        self.assertEqual(unfolded(fold=()), ())
        self.assertEqual(flat_sentence(fold=(), sentence=TRUE), TRUE)
        self.assertEqual(flat_term(fold=(), term=(1, ())), (1, ()))
        self.assertEqual(flat_store(fold=(), store=((), ())), ())


def flat(spot):
    """The name of the SPOT in the UNFOLDED FORM."""
    return spot[0] + str(spot[1]) if isinstance(spot, tuple) else spot


class BothWays(unittest.TestCase):
    def test_both_come_to_the_same(self):
        dice = random.Random(77)
        seen = {"pieces": 0, "yes": 0, "no": 0}
        for turn in range(500):
            fold = random_fold(dice, dice.randint(1, 5))
            form = unfolded(fold)
            self.assertTrue(is_form(form))
            outer, blocks = seen_behind(fold)
            for again in range(4):
                store = random_fold_store(dice, fold)
                told = flat_store(fold, store)
                self.assertTrue(is_store(form, told))
                self.assertEqual(len(told), len(fold_aside(fold, store)) + len(fold_shown(fold, store)) - len(fold_opened(fold, store)))
                self.assertEqual(shown(form, told), tuple(flat(spot) for spot in fold_shown(fold, store)))
                self.assertEqual(opened(form, told), tuple(flat(spot) for spot in fold_opened(fold, store)))
                self.assertEqual(aside(form, told), tuple((flat(spot), answer) for spot, answer in fold_aside(fold, store)))
                sentence, term = lively_sentence(dice, outer, 3, blocks), random_term(dice, outer, 3, blocks)
                seen["pieces"] += "pieces" in str(sentence) + str(term)
                self.assertTrue(is_sentence(kinds_of(form), flat_sentence(fold, sentence)))
                self.assertTrue(is_term(kinds_of(form), flat_term(fold, term)))
                so = fold_holds(fold, store, sentence)
                seen["yes" if so else "no"] += 1
                self.assertIs(holds(view(form, told), flat_sentence(fold, sentence)), so)
                self.assertEqual(value(view(form, told), flat_term(fold, term)), fold_value(fold, store, term))
        self.assertTrue(min(seen.values()) > 200, seen)

    def test_constants_and_wheres_of_pieces_that_are_not_there(self):
        term = (0, (("pieces", "kid", (10, (("where", ("not", ("given", "age")), 1),))),))
        for store, told in (
            (((("n", 1),), ((),)), 0), (((("n", 1),), (((),),)), 11), (((("n", 1),), (((), (("age", 1),)),)), 21), (((), (((), ()),)), 0),
        ):
            self.assertEqual(fold_value(FOLD, store, term), told)
            self.assertEqual(value(view(unfolded(FOLD), flat_store(FOLD, store)), flat_term(FOLD, term)), told)

    def test_in_the_order_of_the_spots(self):
        store = ((("n", 1),), (((("age", 3), ("job", 0)), (("age", 4),)),))
        self.assertEqual([flat(spot) for spot in spots(FOLD, store)], list(names(unfolded(FOLD))))

    def test_what_is_unfolded_may_be_handed_in_again(self):
        fold = (("n", ("one", 2), TRUE), ("kid", 2, ("is", "n", 1), (("age", ("number", 0, 3), TRUE), ("job", ("one", 2), least(2, ("times", "age", 1))))))
        wish = least(4, ("pieces", "kid", (0, (("times", "age", 1), ("where", ("given", "job"), 1)))))
        form, sentence = unfolded(fold), flat_sentence(fold, wish)
        stores = whole_stores(form)
        fillings = set(view(form, store) for store in stores)
        self.assertEqual(how_many(form, sentence), sum(holds(filling, sentence) for filling in fillings))
        self.assertEqual(ahead(form, "job1"), ("n", "kid", "age1"))
        dice = random.Random(85)
        for turn in range(60):
            store = random_fold_store(dice, fold)
            known = flat_store(fold, store)
            self.assertEqual(may_ask(form, known), tuple(flat(spot) for spot in fold_opened(fold, store)))
            words = set(holds(view(form, one), sentence) for one in stores if set(known) <= set(one))
            self.assertEqual(is_sure(form, known, sentence), {(True,): "yes", (False,): "no"}.get(tuple(words), "maybe"))
        term = flat_term(fold, wish[1])
        self.assertEqual(alike(form, term, form, (term[0], term[1][::-1]))[0], "alike")
        self.assertEqual(alike(form, term, form, (1, term[1]))[0], "parted")


if __name__ == "__main__":
    unittest.main()
