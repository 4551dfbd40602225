"""Points [72] and [73]: folds, fold stores, spots."""

import unittest

from askfolds.folds import is_fold, is_fold_store, spots
from tests.helpers import BIG, FALSE, ODD_THINGS, TRUE, spoiled


def least(*parts):
    """A SENTENCE about a TERM of these PARTS."""
    return ("least", (0, parts), 1)


def pieces(block, *parts):
    """A PIECES PART with a TERM of these PARTS."""
    return ("pieces", block, (2, parts))


N = ("n", ("number", -3, 4), TRUE)
B = ("b", ("one", 3), ("given", "n"))
BODY = (
    ("age", ("number", 0, 99), ("all", (("is", "b", 0), least(("times", "kid", 1), ("times", "n", 1))))),
    ("sex", ("one", 2), ("given", "age")),
    ("toy", ("some", 3), ("is", "sex", 1)),
)
KID = ("kid", 4, ("is", "b", 1), BODY)
ALL_OF_IT = pieces(
    "kid", ("times", "age", 1), ("of", "sex", (1, 2)), ("of", "toy", ()),
    ("where", ("all", (("given", "n"), ("is", "b", 0), least(("times", "kid", 1), ("times", "age", 1)), ("has", "toy", 1))), 5),
)
LAST = ("z", ("some", 2), least(("times", "kid", 1), ALL_OF_IT))
FOLD = (N, B, KID, LAST)


def behind(wish):
    """The FOLD with an ITEM of this wish behind its BLOCK."""
    return (N, B, KID, ("z", ("some", 2), wish))


def with_body(*body):
    """The FOLD with another body."""
    return (N, B, KID[:3] + (body,))


class IsFold(unittest.TestCase):
    def test_folds(self):
        for many in range(len(FOLD) + 1):
            self.assertIs(is_fold(FOLD[:many]), True)
        self.assertIs(is_fold((("kid", BIG, TRUE, ()),)), True)
        self.assertIs(is_fold((N, ("kid", 1, ("given", "n"), ()), ("pet", 1, ("given", "kid"), ()))), True)
        self.assertIs(is_fold((("abcdefg", ("one", 1), TRUE),)), True)

    def test_pieces_parts_where_they_may_stand(self):
        for wish in (
            least(ALL_OF_IT), least(pieces("kid")), ("not", ("all", (least(pieces("kid")), TRUE))),
            least(("where", least(("where", ("any", (least(ALL_OF_IT),)), 1)), 1)), least(ALL_OF_IT, ALL_OF_IT, ("times", "n", 1)),
        ):
            self.assertIs(is_fold(behind(wish)), True, wish)
            self.assertIs(is_fold((N, B, KID, ("pet", 2, wish, ()))), True, wish)

    def test_pieces_parts_where_they_may_not_stand(self):
        for wish in (
            least(pieces("kid", pieces("kid"))), least(pieces("kid", ("where", least(pieces("kid")), 1))),
            least(pieces("pet")), least(pieces("n")), least(pieces("age")), least(pieces("z")),
            least(pieces(True)), least(pieces(["kid"])), least(("pieces", "kid")), least(("pieces", "kid", 0)),
            least(("pieces", "kid", (0, []))), least(("pieces", "kid", (True, ()))), least(("pieces", "kid", TRUE)),
        ):
            self.assertIs(is_fold(behind(wish)), False, wish)
        wish = least(pieces("kid"))
        self.assertIs(is_fold((N, B, ("kid", 2, wish, BODY))), False)
        self.assertIs(is_fold(with_body(("age", ("one", 2), wish))), False)
        self.assertIs(is_fold((N, B, ("y", ("one", 2), wish), KID)), False)
        self.assertIs(is_fold((N, B, KID, ("pet", 2, TRUE, (("tail", ("one", 2), wish),)))), False)

    def test_names_in_a_pieces_part(self):
        for part, told in (
            (("times", "age", 1), True), (("times", "n", 1), False), (("times", "kid", 1), False), (("times", "sex", 1), False),
            (("of", "sex", ()), True), (("of", "toy", ()), True), (("of", "b", ()), False), (("of", "age", ()), False),
            (("where", least(("times", "n", 1), ("times", "kid", 1), ("of", "b", ())), 1), True),
            (("where", ("given", "kid"), 1), True), (("where", ("given", "z"), 1), False), (("where", ("given", "x"), 1), False),
            (("where", ("is", "toy", 0), 1), False),
        ):
            self.assertIs(is_fold(behind(least(pieces("kid", part)))), told, part)

    def test_a_body_sees_what_is_ahead_of_its_own_block(self):
        later = ("y", ("one", 2), TRUE)
        pet = ("pet", 2, TRUE, (("tail", ("one", 2), TRUE),))
        fold = (N, B, KID, later, pet)
        for part, told in (
            (pieces("kid", ("where", ("given", "y"), 1)), False), (pieces("pet", ("where", ("given", "y"), 1)), True),
            (pieces("pet", ("where", ("given", "kid"), 1)), True), (pieces("kid", ("where", ("given", "pet"), 1)), False),
            (pieces("pet", ("where", ("given", "age"), 1)), False), (pieces("pet", ("times", "age", 1)), False),
        ):
            self.assertIs(is_fold(fold + (("z", ("one", 2), least(part)),)), told, part)

    def test_wishes_of_items(self):
        for wish, told in (
            (("given", "n"), True), (("given", "kid"), True), (("given", "age"), False), (("given", "z"), False),
            (("is", "sex", 0), False), (least(("times", "kid", 2)), True), (least(("times", "age", 2)), False),
            (("is", "kid", 0), False), (least(("of", "kid", ())), False), (("given", "x"), False),
        ):
            self.assertIs(is_fold(behind(wish)), told, wish)

    def test_wishes_of_bodies(self):
        for wish, told in (
            (("given", "n"), True), (("is", "b", 1), True), (("given", "kid"), True), (least(("times", "kid", 1)), True),
            (("given", "age"), False), (("given", "sex"), False), (("given", "z"), False),
        ):
            self.assertIs(is_fold(with_body(("age", ("one", 2), wish), ("sex", ("one", 2), TRUE)) + (LAST[:2] + (TRUE,),)), told, wish)
        self.assertIs(is_fold((N, B, ("kid", 2, ("given", "kid"), ()))), False)
        self.assertIs(is_fold((N, B, ("kid", 2, ("given", "age"), BODY))), False)

    def test_names(self):
        for name in ("a", "abcdefg"):
            self.assertIs(is_fold(((name, ("one", 1), TRUE),)), True)
            self.assertIs(is_fold(((name, 1, TRUE, ()),)), True)
            self.assertIs(is_fold((("q", 1, TRUE, ((name, ("one", 1), TRUE),)),)), True)
        for name in ("", "abcdefgh", "a1", "a0b", "A", "a b", "1", "a-", None, True, 0, ("a",), ["a"]):
            self.assertIs(is_fold(((name, ("one", 1), TRUE),)), False, name)
            self.assertIs(is_fold(((name, 1, TRUE, ()),)), False, name)
            self.assertIs(is_fold((("q", 1, TRUE, ((name, ("one", 1), TRUE),)),)), False, name)

    def test_names_twice(self):
        for fold in (
            (N, N), (N, ("n", 2, TRUE, ())), (("n", 2, TRUE, ()), N), (N, ("kid", 2, TRUE, (N,))), (("kid", 2, TRUE, (N,)), N),
            (("n", 2, TRUE, (N,)),), (("kid", 2, TRUE, (N, N)),), (("kid", 2, TRUE, (N,)), ("pet", 2, TRUE, (N,))),
        ):
            self.assertIs(is_fold(fold), False, fold)

    def test_wrong_blocks(self):
        for block in (
            ("kid", 0, TRUE, ()), ("kid", -1, TRUE, ()), ("kid", True, TRUE, ()), ("kid", "1", TRUE, ()), ("kid", None, TRUE, ()),
            ("kid", 1, TRUE, []), ("kid", 1, TRUE, None), ("kid", 1, TRUE, TRUE), ("kid", 1, (), ()), ("kid", 1, TRUE),
            ("kid", 1, TRUE, (), ()), ["kid", 1, TRUE, ()], ("kid", 1, TRUE, (("pet", 1, TRUE, ()),)), ("kid", 1, TRUE, ((),)),
            ("kid", ("number", 0, 1), TRUE, ()), ("kid", 1, TRUE, ("n",)), ("kid", 1, TRUE, 0),
        ):
            self.assertIs(is_fold((block,)), False, block)

    def test_odd_things(self):
        for thing in ODD_THINGS:
            self.assertIs(is_fold(thing), thing == (), thing)
            self.assertIs(is_fold((N, thing)), False, thing)
        for thing in spoiled(FOLD):
            self.assertIs(is_fold(thing), False, thing)

    def test_names_of_the_arguments(self):
        self.assertIs(is_fold(thing=()), True)
        self.assertIs(is_fold_store(fold=(), thing=((), ())), True)
        self.assertEqual(spots(fold=(), store=((), ())), ())


PET = ("pet", 2, TRUE, (("tail", ("some", 2), TRUE),))
TWO = (N, KID, B, PET)


class Stores(unittest.TestCase):
    def test_stores(self):
        for store in (
            ((), ((), ())), ((("n", 1), ("b", 2)), ((), ())), ((("b", 0),), (((), (), (), ()), ((), ()))),
            ((), ((((("age", 7), ("sex", 1), ("toy", (0, 2)))), ((("toy", ()),)), ()), ((("tail", (1,)),),))),
        ):
            self.assertIs(is_fold_store(TWO, store), True, store)
        self.assertIs(is_fold_store((), ((), ())), True)
        self.assertIs(is_fold_store((("kid", 2, TRUE, ()),), ((), (((), ()),))), True)

    def test_outer_pairs(self):
        for outer in (
            (("b", 0), ("n", 0)), (("n", 0), ("n", 0)), (("n", 5),), (("n", True),), (("n", None),), (("x", 0),), (("kid", 0),),
            (("age", 0),), (("n",),), (("n", 0, 0),), (["n", 0],), [("n", 0)], [], None, 0, "", ("n", 0), ((["n"], 0),),
            ((True, 0),), (("b", 3),), (("b", (0,)),), ((),),
        ):
            self.assertIs(is_fold_store(TWO, (outer, ((), ()))), False, outer)

    def test_entries(self):
        for entries in (
            (), ((),), ((), (), ()), [(), ()], ((), []), ([], ()), (((),) * 5, ()), ((), ((),) * 3), None, 0, "", ((), 0),
            ((), None), (0, ()), (((("age", 7),),), ((("age", 7),),)), (((("sex", 1), ("age", 7)),), ()), ((([],)), ()),
            (((("age", 7), ("age", 7)),), ()), (((("age", True),),), ()), (((("age", 100),),), ()), (((("toy", [0]),),), ()),
            (((("n", 1),),), ()), (((("kid", 1),),), ()), ((("age", 7),), ()), (((("toy", (2, 0)),),), ()), (([("age", 7)],), ()),
        ):
            self.assertIs(is_fold_store(TWO, ((), entries)), False, entries)

    def test_most_pieces(self):
        fold = (("kid", 3, TRUE, ()),)
        for many in range(6):
            self.assertIs(is_fold_store(fold, ((), (((),) * many,))), many <= 3)

    def test_odd_things(self):
        for fold in (TWO, ()):
            for thing in ODD_THINGS + (((),), ((), (), ()), [(), ((), ())], [(), ()]):
                self.assertIs(is_fold_store(fold, thing), False, thing)
        store = ((("n", 1), ("b", 1)), (((("age", 1), ("sex", 1), ("toy", (0, 1))), ()), ((), ((("tail", (1,)),)))))
        self.assertIs(is_fold_store(TWO, store), True)
        for thing in spoiled(store):
            self.assertIs(is_fold_store(TWO, thing), False, thing)


class Spots(unittest.TestCase):
    def test_in_their_order(self):
        self.assertEqual(spots((), ((), ())), ())
        self.assertEqual(spots(TWO, ((), ((), ()))), ("n", "kid", "b", "pet"))
        told = (
            "n", "kid", ("age", 0), ("sex", 0), ("toy", 0), ("age", 1), ("sex", 1), ("toy", 1), "b",
            "pet", ("tail", 0), ("tail", 1),
        )
        self.assertEqual(spots(TWO, ((("n", 1),), (((), (("sex", 1),)), ((), ())))), told)
        self.assertEqual(spots((("kid", 2, TRUE, ()), N), ((), (((), ()),))), ("kid", "n"))
        self.assertEqual(spots(TWO, ((), ((), ((), ())))), ("n", "kid", "b", "pet", ("tail", 0), ("tail", 1)))
        self.assertEqual(spots(TWO, ((), (((),), ()))), ("n", "kid", ("age", 0), ("sex", 0), ("toy", 0), "b", "pet"))
        self.assertIsInstance(spots(TWO, ((), ((), ()))), tuple)


if __name__ == "__main__":
    unittest.main()
