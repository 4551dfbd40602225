"""Points [75] and [76]: what a fold shows, and what its sentences and terms come to."""

import random
import unittest

from askfolds.folds import is_fold, is_fold_store, spots
from askfolds.foldviews import fold_aside, fold_holds, fold_opened, fold_shown, fold_value
from askfolds.views import holds, value
from tests.helpers import FALSE, TRUE, lively_sentence, random_fold, random_fold_store, random_term, seen_behind


def least(number, *parts):
    """A SENTENCE about a TERM of these PARTS."""
    return ("least", (0, parts), number)


N = ("n", ("number", -3, 9), TRUE)
KID = ("kid", 3, least(1, ("times", "n", 1)), (
    ("age", ("number", 0, 99), TRUE),
    ("job", ("one", 3), least(18, ("times", "age", 1))),
    ("toy", ("some", 3), ("all", (("given", "age"), ("not", least(18, ("times", "age", 1))), least(2, ("times", "kid", 1))))),
))
AGES = ("pieces", "kid", (0, (("times", "age", 1),)))
TAX = ("tax", ("one", 2), least(40, AGES))
FOLD = (N, KID, TAX)


def stored(n, *pieces, tax=None):
    """A FOLD STORE of the FOLD."""
    outer = () if n is None else (("n", n),)
    return outer + (() if tax is None else (("tax", tax),)), (pieces,)


class Shown(unittest.TestCase):
    def check(self, store, shown, opened, aside, fold=FOLD):
        self.assertTrue(is_fold(fold) and is_fold_store(fold, store))
        self.assertEqual(fold_shown(fold, store), shown)
        self.assertEqual(fold_opened(fold, store), opened)
        self.assertEqual(fold_aside(fold, store), aside)

    def test_empty(self):
        self.check(((), ()), (), (), (), fold=())
        self.check(stored(None), ("n",), ("n",), (("kid", 0),))

    def test_a_block_that_does_not_show(self):
        self.check(stored(0), ("n",), (), (("kid", 0),))
        self.check(stored(0, ()), ("n",), (), (("kid", 1),))
        pieces = ((("age", 3), ("toy", (0,))), (), (("age", 50), ("job", 1)))
        aside = (("kid", 3), (("age", 0), 3), (("toy", 0), (0,)), (("age", 2), 50), (("job", 2), 1), ("tax", 1))
        self.check(stored(0, *pieces, tax=1), ("n",), (), aside)

    def test_a_block_without_pieces(self):
        self.check(stored(1), ("n", "kid"), (), ())
        self.check(stored(1, tax=0), ("n", "kid"), (), (("tax", 0),))

    def test_each_piece_by_itself(self):
        pieces = ((("age", 3), ("job", 1)), (), (("age", 50), ("toy", (1,))))
        shown = ("n", "kid", ("age", 0), ("toy", 0), ("age", 1), ("age", 2), ("job", 2), "tax")
        self.check(stored(5, *pieces), shown, (("toy", 0), ("age", 1), ("job", 2), "tax"), ((("job", 0), 1), (("toy", 2), (1,))))
        shown = ("n", "kid", ("age", 0), ("job", 0), ("age", 1), ("toy", 1), ("age", 2), "tax")
        self.check(
            stored(5, pieces[2], pieces[0], pieces[1], tax=1), shown, (("job", 0), ("toy", 1), ("age", 2)),
            ((("toy", 0), (1,)), (("job", 1), 1)),
        )

    def test_a_body_looks_at_its_blocks_name(self):
        self.check(stored(5, (("age", 3),)), ("n", "kid", ("age", 0)), (), ())
        self.check(
            stored(5, (("age", 3),), ()), ("n", "kid", ("age", 0), ("toy", 0), ("age", 1)), (("toy", 0), ("age", 1)), ()
        )

    def test_pieces_parts_count_what_shows_alone(self):
        fold = (N, ("kid", 3, TRUE, (("old", ("one", 2), TRUE), ("age", ("number", 0, 99), ("is", "old", 1)))), TAX)
        self.check(((), (((("old", 0), ("age", 90)),),)), ("n", "kid", ("old", 0)), ("n",), ((("age", 0), 90),), fold=fold)
        shown = ("n", "kid", ("old", 0), ("age", 0), "tax")
        self.check(((), (((("old", 1), ("age", 90)),),)), shown, ("n", "tax"), (), fold=fold)

    def test_pieces_parts_under_where(self):
        for wish in (
            least(1, ("where", least(40, AGES), 1)), ("not", ("not", least(1, ("where", ("all", (least(40, AGES),)), 2)))),
            least(1, ("where", least(1, ("where", least(40, AGES), 1)), 1)),
        ):
            fold = FOLD[:2] + (("tax", ("one", 2), wish),)
            self.assertNotIn("tax", fold_shown(fold, stored(1, (("age", 20),), (("age", 19),))))
            self.assertIn("tax", fold_shown(fold, stored(1, (("age", 20),), (("age", 20),))))
            self.assertNotIn("tax", fold_shown(fold, stored(0, (("age", 20),), (("age", 20),))))

    def test_blocks_behind_one_another(self):
        pet = ("pet", 2, least(2, ("pieces", "kid", (0, (("where", least(1, ("times", "age", 1)), 1),)))), (
            ("tail", ("one", 2), ("given", "tax")), ("name", ("one", 2), least(2, ("times", "kid", 1), ("times", "pet", 1))),
        ))
        fold = FOLD + (pet,)
        kids = ((("age", 1),), (("age", 40),))
        self.check(
            ((("n", 1), ("tax", 0)), (kids, ((("tail", 1),),))),
            ("n", "kid", ("age", 0), ("toy", 0), ("age", 1), ("job", 1), "tax", "pet", ("tail", 0), ("name", 0)),
            (("toy", 0), ("job", 1), ("name", 0)), (), fold=fold,
        )
        self.check(
            ((("n", 1), ("tax", 0)), (kids[:1], ((("tail", 1),), ()))),
            ("n", "kid", ("age", 0)), (), (("tax", 0), ("pet", 2), (("tail", 0), 1)), fold=fold,
        )

    def test_blocks_without_a_body(self):
        fold = (("kid", 2, TRUE, ()), ("pet", 2, least(1, ("times", "kid", 1)), ()))
        self.check(((), ((), ())), ("kid",), (), (("pet", 0),), fold=fold)
        self.check(((), (((), ()), ((),))), ("kid", "pet"), (), (), fold=fold)
        self.assertEqual(fold_value(fold, ((), (((), ()), ((),))), (1, (("pieces", "kid", (5, ())),))), 11)

    def test_names_of_the_arguments(self):
        for ask in (fold_shown, fold_opened, fold_aside):
            self.assertEqual(ask(fold=(), store=((), ())), ())
        self.assertIs(fold_holds(fold=(), store=((), ()), sentence=TRUE), True)
        self.assertEqual(fold_value(fold=(), store=((), ()), term=(3, ())), 3)


class Holds(unittest.TestCase):
    PIECES = ((("age", 3), ("toy", (0, 2))), (), (("age", 50), ("job", 2), ("toy", (1,))))

    def test_values(self):
        store = stored(5, *self.PIECES, tax=1)
        for parts, told in (
            ((), 0), ((AGES,), 53), ((AGES, AGES), 106), ((("times", "kid", 2),), 6), ((("times", "n", 2), AGES), 63),
            ((("pieces", "kid", (4, ())),), 12), ((("pieces", "kid", (0, (("of", "job", (1, 2, 7)),))),), 7),
            # The toy of the last one doesn't show.
            ((("pieces", "kid", (0, (("of", "toy", (1, 10, 100)),))),), 101),
            ((("pieces", "kid", (0, (("where", ("given", "age"), 1),))),), 2),
            ((("pieces", "kid", (1, (("where", ("not", ("given", "age")), 10),))),), 13),
            ((("pieces", "kid", (0, (("where", least(55, ("times", "age", 1), ("times", "n", 1)), 1),))),), 1),
            ((("pieces", "kid", (0, (("where", ("given", "kid"), 1), ("where", ("given", "n"), 10)))),), 33),
            ((("where", least(53, AGES), 1), ("where", least(54, AGES), 10), ("where", ("is", "tax", 1), 100)), 101),
        ):
            self.assertEqual(fold_value(FOLD, store, (7, parts)), told + 7, parts)

    def test_nothing_comes_of_a_block_that_does_not_show(self):
        store = stored(0, *self.PIECES, tax=1)
        for parts in (
            (AGES,), (("times", "kid", 1),), (("pieces", "kid", (4, ())),), (("pieces", "kid", (4, (("where", TRUE, 1),))),),
            (("where", ("given", "kid"), 1),), (("where", least(1, ("pieces", "kid", (4, ()))), 1),), (("of", "tax", (0, 1)),),
        ):
            self.assertEqual(fold_value(FOLD, store, (7, parts)), 7, parts)
        self.assertIs(fold_holds(FOLD, store, least(0, AGES)), True)
        self.assertIs(fold_holds(FOLD, store, least(1, AGES)), False)

    def test_sentences(self):
        store = stored(5, *self.PIECES)
        for sentence, told in (
            (TRUE, True), (FALSE, False), (("given", "kid"), True), (("given", "tax"), False), (least(53, AGES), True),
            (least(54, AGES), False), (("not", least(54, AGES)), True), (("all", (least(53, AGES), ("given", "n"))), True),
            (("any", (least(54, AGES), ("given", "tax"))), False), (least(3, ("times", "kid", 1)), True),
            (least(4, ("times", "kid", 1)), False),
        ):
            self.assertIs(fold_holds(FOLD, store, sentence), told, sentence)


def plain_pairs(fold, store):
    """Go through the FOLD as point [75] says it: tell the SPOTS that SHOW, all pairs, and those of each PIECE."""
    outer, entries = dict(store[0]), list(store[1])
    shown, pairs, inner = [], (), {}
    for item in fold:
        pieces = entries.pop(0) if len(item) == 4 else None
        if not holds(pairs, settled_sentence(inner, item[2])):
            continue
        shown.append(item[0])
        if pieces is None:
            pairs += ((item[0], outer[item[0]]),) if item[0] in outer else ()
            continue
        pairs += ((item[0], len(pieces)),)
        inner[item[0]] = []
        for place, piece in enumerate(pieces):
            own = ()
            for name, kind, wish in item[3]:
                if holds(pairs + own, wish):
                    shown.append((name, place))
                    own += ((name, dict(piece)[name]),) if name in dict(piece) else ()
            inner[item[0]].append(pairs + own)
    return shown, pairs, inner


def settled_sentence(inner, sentence):
    """Write the SENTENCE with a NUMBER in the stead of each PIECES PART."""
    if sentence[0] == "least":
        return sentence[0], settled_term(inner, sentence[1]), sentence[2]
    if sentence[0] == "not":
        return sentence[0], settled_sentence(inner, sentence[1])
    if sentence[0] in ("all", "any"):
        return sentence[0], tuple(settled_sentence(inner, one) for one in sentence[1])
    return sentence


def settled_term(inner, term):
    """Write the TERM with a NUMBER in the stead of each PIECES PART."""
    constant, parts = term[0], ()
    for word, about, weight in term[1]:
        if word == "pieces":
            constant += sum(value(pairs, weight) for pairs in inner.get(about, []))
        else:
            parts += ((word, settled_sentence(inner, about) if word == "where" else about, weight),)
    return constant, parts


class Promise(unittest.TestCase):
    def test_gone_through_as_the_document_says(self):
        dice = random.Random(75)
        seen = {"pieces": 0, "hidden": 0}
        for turn in range(500):
            fold = random_fold(dice, dice.randint(1, 5))
            self.assertTrue(is_fold(fold))
            ahead, blocks = seen_behind(fold)
            for again in range(4):
                store = random_fold_store(dice, fold)
                self.assertTrue(is_fold_store(fold, store))
                shown, pairs, inner = plain_pairs(fold, store)
                self.assertEqual(fold_shown(fold, store), tuple(shown))
                answered = dict(store[0])
                for block, pieces in zip([item for item in fold if len(item) == 4], store[1]):
                    answered[block[0]] = len(pieces)
                    answered.update({(name, at): answer for at, piece in enumerate(pieces) for name, answer in piece})
                    seen["hidden"] += block[0] not in shown and len(pieces) > 0
                self.assertEqual(fold_opened(fold, store), tuple(spot for spot in shown if spot not in answered))
                aside = tuple((spot, answered[spot]) for spot in spots(fold, store) if spot in answered and spot not in shown)
                self.assertEqual(fold_aside(fold, store), aside)
                sentence, term = lively_sentence(dice, ahead, 3, blocks), random_term(dice, ahead, 3, blocks)
                seen["pieces"] += "pieces" in str(sentence) + str(term)
                self.assertIs(fold_holds(fold, store, sentence), holds(pairs, settled_sentence(inner, sentence)))
                self.assertEqual(fold_value(fold, store, term), value(pairs, settled_term(inner, term)))
        self.assertTrue(seen["pieces"] > 200 and seen["hidden"] > 50, seen)


if __name__ == "__main__":
    unittest.main()
