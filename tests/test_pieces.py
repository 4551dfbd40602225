"""Points [78] and [79]: pieces that come, go and are moved."""

import random
import unittest

from askfolds.errors import NoPiece
from askfolds.folds import is_fold_store
from askfolds.foldviews import fold_holds, fold_shown, fold_value
from askfolds.pieces import piece_in, piece_moved, piece_out
from tests.helpers import (
    BIG, ODD_THINGS, TRUE, lively_sentence, random_fold, random_fold_store, random_pairs, random_term, seen_behind
)

AGE = ("age", ("number", 0, 9), TRUE)
TAIL = ("tail", ("one", 3), TRUE)
FOLD = (("n", ("one", 2), TRUE), ("kid", 3, TRUE, (AGE,)), ("b", ("one", 2), TRUE), ("pet", 4, TRUE, (TAIL,)), ("empty", 1, TRUE, ()))
P, Q, R = (("age", 1),), (("age", 2),), (("age", 3),)
PETS = ((("tail", 0),), (), (("tail", 2),))
OUTER = (("n", 1), ("b", 0))


def with_kids(*pieces):
    """A FOLD STORE with these PIECES of the first BLOCK."""
    return OUTER, (pieces, PETS, ())


class Told(unittest.TestCase):
    def test_in(self):
        for place, told in ((0, ((), P, Q)), (1, (P, (), Q)), (2, (P, Q, ()))):
            self.assertEqual(piece_in(FOLD, with_kids(P, Q), "kid", place), with_kids(*told))
        self.assertEqual(piece_in(FOLD, with_kids(), "kid", 0), with_kids(()))
        self.assertEqual(piece_in(FOLD, with_kids(P), "pet", 3), (OUTER, ((P,), PETS + ((),), ())))
        self.assertEqual(piece_in(FOLD, with_kids(P), "empty", 0), (OUTER, ((P,), PETS, ((),))))

    def test_out(self):
        for place, told in ((0, (Q, R)), (1, (P, R)), (2, (P, Q))):
            self.assertEqual(piece_out(FOLD, with_kids(P, Q, R), "kid", place), with_kids(*told))
        self.assertEqual(piece_out(FOLD, with_kids(()), "kid", 0), with_kids())
        self.assertEqual(piece_out(FOLD, with_kids(P), "pet", 1), (OUTER, ((P,), PETS[:1] + PETS[2:], ())))

    def test_moved(self):
        for one, other, told in (
            (0, 0, (P, Q, R)), (1, 1, (P, Q, R)), (2, 2, (P, Q, R)), (0, 1, (Q, P, R)), (1, 0, (Q, P, R)), (0, 2, (Q, R, P)),
            (2, 0, (R, P, Q)), (1, 2, (P, R, Q)), (2, 1, (P, R, Q)),
        ):
            self.assertEqual(piece_moved(FOLD, with_kids(P, Q, R), "kid", one, other), with_kids(*told))
        self.assertEqual(piece_moved(FOLD, with_kids(P), "pet", 2, 0), (OUTER, ((P,), PETS[2:] + PETS[:2], ())))

    def test_a_block_that_does_not_show(self):
        fold = (("kid", 2, ("any", ()), (AGE,)),)
        self.assertEqual(piece_in(fold, ((), ((),)), "kid", 0), ((), (((),),)))
        self.assertEqual(piece_moved(fold, ((), ((P, Q),)), "kid", 0, 1), ((), ((Q, P),)))
        self.assertEqual(piece_out(fold, ((), ((P, Q),)), "kid", 0), ((), ((Q,),)))

    def test_names_of_the_arguments(self):
        self.assertEqual(piece_in(fold=FOLD, store=with_kids(), block="kid", place=0), with_kids(()))
        self.assertEqual(piece_out(fold=FOLD, store=with_kids(P), block="kid", place=0), with_kids())
        self.assertEqual(piece_moved(fold=FOLD, store=with_kids(P, Q), block="kid", one=0, other=1), with_kids(Q, P))


class Refused(unittest.TestCase):
    def refused(self, word, ask, store, *things, fold=FOLD):
        with self.assertRaises(NoPiece) as caught:
            ask(fold, store, *things)
        self.assertEqual(caught.exception.word, word, things)

    def test_block(self):
        for block in ("n", "age", "b", "x", "tail", "kids") + ODD_THINGS:
            for place in (0, -1, 9):
                self.refused("block", piece_in, with_kids(P, Q, R), block, place)
                self.refused("block", piece_out, with_kids(P), block, place)
                self.refused("block", piece_moved, with_kids(P), block, 0, place)
        self.refused("block", piece_in, ((), ()), "kid", 0, fold=())

    def test_most(self):
        for place in (0, 1, 3, 4, -1, BIG):
            self.refused("most", piece_in, with_kids(P, Q, R), "kid", place)
            self.refused("most", piece_in, (OUTER, ((), (), ((),))), "empty", place)

    def test_place(self):
        for place in (-1, 3, -2, BIG, -BIG, True, False, None, "0", (0,), [0]):
            self.refused("place", piece_in, with_kids(P, Q), "kid", place)
        for place in (-1, 2, -2, BIG, -BIG, True, False, None, "0", (0,), [0]):
            self.refused("place", piece_out, with_kids(P, Q), "kid", place)
            self.refused("place", piece_moved, with_kids(P, Q), "kid", place, 0)
            self.refused("place", piece_moved, with_kids(P, Q), "kid", 0, place)
            self.refused("place", piece_moved, with_kids(P, Q), "kid", place, place)
        for place in (0, -1, 1):
            self.refused("place", piece_out, with_kids(), "kid", place)
            self.refused("place", piece_moved, with_kids(), "kid", place, place)
        self.refused("place", piece_in, with_kids(), "kid", 1)


class Promise(unittest.TestCase):
    def test_stores_of_the_fold(self):
        dice = random.Random(78)
        for turn in range(200):
            fold = random_fold(dice, 4)
            store = random_fold_store(dice, fold)
            blocks = [item for item in fold if len(item) == 4]
            for block, pieces in zip(blocks, store[1]):
                if len(pieces) < block[1]:
                    for place in range(len(pieces) + 1):
                        told = piece_in(fold, store, block[0], place)
                        self.assertTrue(is_fold_store(fold, told))
                        self.assertEqual(piece_out(fold, told, block[0], place), store)
                for place in range(len(pieces)):
                    self.assertTrue(is_fold_store(fold, piece_out(fold, store, block[0], place)))
                    told = piece_moved(fold, store, block[0], 0, place)
                    self.assertEqual(piece_moved(fold, told, block[0], place, 0), store)

    def test_pieces_in_another_order(self):
        dice = random.Random(79)
        turned = 0
        for turn in range(400):
            fold = random_fold(dice, 5)
            store = random_fold_store(dice, fold)
            ahead, blocks = seen_behind(fold)
            for block, pieces in zip([item for item in fold if len(item) == 4], store[1]):
                if len(pieces) < 2:
                    continue
                one, other = dice.sample(range(len(pieces)), 2)
                told = piece_moved(fold, store, block[0], one, other)
                turned += told != store
                order = list(range(len(pieces)))
                order.insert(other, order.pop(one))
                body = [question[0] for question in block[3]]
                before = [spot for spot in fold_shown(fold, store)]
                after = [
                    (spot[0], order[spot[1]]) if isinstance(spot, tuple) and spot[0] in body else spot
                    for spot in fold_shown(fold, told)
                ]
                self.assertEqual(sorted(map(str, before)), sorted(map(str, after)))
                sentence, term = lively_sentence(dice, ahead, 3, blocks), random_term(dice, ahead, 3, blocks)
                self.assertIs(fold_holds(fold, store, sentence), fold_holds(fold, told, sentence))
                self.assertEqual(fold_value(fold, store, term), fold_value(fold, told, term))
        self.assertGreater(turned, 50)

    def test_an_answer_in_one_piece_turns_nothing_in_another(self):
        dice = random.Random(80)
        for turn in range(300):
            fold = random_fold(dice, 4)
            store = random_fold_store(dice, fold)
            for at, block in enumerate([item for item in fold if len(item) == 4]):
                for place in range(len(store[1][at])):
                    pieces = list(store[1][at])
                    pieces[place] = random_pairs(dice, block[3])
                    other = store[0], store[1][:at] + (tuple(pieces),) + store[1][at + 1:]
                    body = [question[0] for question in block[3]]
                    self.assertEqual(*[
                        [spot for spot in fold_shown(fold, some) if spot[0] in body and spot[1:] != (place,)] for some in (store, other)
                    ])


if __name__ == "__main__":
    unittest.main()
