"""Points [55] and [56]: forms changed."""

import unittest

from askfolds.changing import changed
from askfolds.errors import NoChange
from tests.helpers import BIG, FALSE, ODD_THINGS, TRUE, deep, spoiled

A = ("a", ("one", 2), TRUE)
B = ("b", ("number", 0, 3), ("is", "a", 1))
C = ("c", ("some", 2), ("least", (0, (("times", "b", 1),)), 1))
FORM = (A, B, C)
X = ("x", ("one", 3), ("given", "b"))
SOME = (
    ("put", 2, X), ("take", "c"), ("move", "a", 0), ("kind", "a", ("one", 3)), ("wish", "c", ("given", "a")),
)


class Changed(unittest.TestCase):
    def test_put(self):
        self.assertEqual(changed(FORM, ("put", 2, X)), (A, B, X, C))
        self.assertEqual(changed(FORM, ("put", 3, X)), (A, B, C, X))
        first = ("x", ("one", 3), TRUE)
        self.assertEqual(changed(FORM, ("put", 0, first)), (first, A, B, C))
        self.assertEqual(changed((), ("put", 0, first)), (first,))

    def test_take(self):
        self.assertEqual(changed(FORM, ("take", "c")), (A, B))
        self.assertEqual(changed((A,), ("take", "a")), ())
        self.assertEqual(changed((A, X[:2] + (TRUE,), B), ("take", "x")), (A, B))

    def test_move(self):
        free = ("x", ("one", 3), TRUE)
        form = (A, B, C, free)
        self.assertEqual(changed(form, ("move", "x", 0)), (free, A, B, C))
        self.assertEqual(changed(form, ("move", "x", 2)), (A, B, free, C))
        self.assertEqual(changed((free, A, B, C), ("move", "x", 3)), form)
        self.assertEqual(changed((free, A, B, C), ("move", "x", 1)), (A, free, B, C))
        self.assertEqual(changed((A, free), ("move", "a", 1)), (free, A))

    def test_kind_and_wish(self):
        self.assertEqual(changed(FORM, ("kind", "c", ("one", 9))), (A, B, ("c", ("one", 9), C[2])))
        self.assertEqual(changed(FORM, ("kind", "b", ("number", -BIG, BIG))), (A, ("b", ("number", -BIG, BIG), B[2]), C))
        self.assertEqual(changed(FORM, ("wish", "c", FALSE)), (A, B, ("c", ("some", 2), FALSE)))
        self.assertEqual(changed(FORM, ("wish", "b", ("given", "a"))), (A, ("b", B[1], ("given", "a")), C))

    def test_what_turns_nothing(self):
        for thing in (("move", "b", 1), ("move", "a", 0), ("kind", "a", A[1]), ("wish", "c", C[2])):
            self.assertEqual(changed(FORM, thing), FORM)

    def test_names_of_the_arguments(self):
        self.assertEqual(changed(form=FORM, thing=("take", "c")), (A, B))


class Refused(unittest.TestCase):
    def refused(self, thing, word, form=FORM):
        with self.assertRaises(NoChange) as caught:
            changed(form, thing)
        self.assertEqual(caught.exception.word, word, thing)

    def test_no_tuples_of_a_word(self):
        for thing in ODD_THINGS + (("put",), ("take",), ("wish", "a"), ("turn", "a"), ("Take", "a"), (["take"], "a"), ("", "a")):
            self.refused(thing, "shape")
        for thing in SOME:
            changed(FORM, thing)
            self.refused(list(thing), "shape")
            self.refused(thing[:-1], "shape")
            self.refused(thing[1:], "shape")
            self.refused(thing + (0,), "shape")
            self.refused((thing,), "shape")

    def test_wrong_things_within(self):
        for thing in (
            ("put", True, X), ("put", False, X), ("put", None, X), ("put", "0", X), ("put", (0,), X), ("put", 0, list(X)),
            ("put", 0, X[:2]), ("put", 0, X + (TRUE,)), ("put", 0, ("X", X[1], TRUE)), ("put", 0, ("", X[1], TRUE)),
            ("put", 0, ("abcdefghi", X[1], TRUE)), ("put", 0, (True, X[1], TRUE)), ("put", 0, ("x", ("one", 0), TRUE)),
            ("put", 0, ("x", ["one", 2], TRUE)), ("put", 0, ("x", ("one", True), TRUE)), ("put", 0, ("x", ("number", 1, 0), TRUE)),
            ("put", 0, ("x", None, TRUE)), ("put", 0, None), ("put", 0, "x"), ("put", X, 0), ("put", 0, 1, TRUE, ()),
            ("put", "", 0, X), ("put", 0, (("x",), X[1], TRUE)),
            ("take", True), ("take", ""), ("take", "A"), ("take", ("a",)), ("take", ["a"]), ("take", None), ("take", 0),
            ("take", "abcdefghi"), ("take", "0a"), ("take", A), ("take", "a", 0),
            ("move", "a", True), ("move", "a", False), ("move", "a", "0"), ("move", "a", None), ("move", 0, "a"),
            ("move", True, 0), ("move", "A", 0), ("move", "a", (0,)), ("move", "a", [0]),
            ("kind", "a", ("one", 0)), ("kind", "a", ("one", True)), ("kind", "a", ["one", 2]), ("kind", "a", ("one",)),
            ("kind", "a", ("one", 2, 3)), ("kind", "a", ("number", 1, 0)), ("kind", "a", None), ("kind", "a", "one"),
            ("kinds", "a", ("one", 2)), ("take", "a", ("one", 2)), ("turn", "a", 0), ("turn", "a", TRUE),
            ("kind", "A", ("one", 2)), ("kind", ("one", 2), "a"), ("kind", ["a"], ("one", 2)),
            ("wish", "", TRUE), ("wish", "A", TRUE), ("wish", None, TRUE), ("wish", ["a"], TRUE), ("wish", TRUE, "a"), ("wish", True, TRUE),
        ):
            self.refused(thing, "shape")
        for at in (0, 1):
            for other in spoiled(("x", ("one", 3), TRUE)[at]):
                thing = X[:at] + (other,) + X[at + 1:]
                self.refused(("put", 0, thing), "shape")

    def test_names(self):
        for thing in (
            ("put", 0, A), ("put", 3, ("c", ("one", 2), TRUE)), ("put", 9, A), ("put", -1, A), ("put", 0, ("a", ("one", 2), None)),
            ("take", "x"), ("take", "aa"), ("move", "x", 0), ("move", "x", -1), ("move", "x", 9), ("kind", "x", ("one", 2)),
            ("wish", "x", TRUE), ("wish", "x", None), ("wish", "x", []),
        ):
            self.refused(thing, "name")
        for thing in SOME[1:]:
            self.refused(thing, "name", form=())

    def test_places(self):
        for place in (-1, 4, -BIG, BIG, -3):
            self.refused(("put", place, X), "place")
            self.refused(("put", place, ("x", ("one", 2), None)), "place")
        for place in (-1, 3, -BIG, BIG):
            self.refused(("move", "a", place), "place")
            self.refused(("move", "c", place), "place")
        self.refused(("put", 1, X), "place", form=())
        self.refused(("put", -1, X), "place", form=())

    def test_forms(self):
        for thing in (
            ("put", 0, X), ("put", 1, X), ("put", 3, ("x", ("one", 2), ("given", "x"))), ("put", 3, ("x", ("one", 2), ("given", "y"))),
            ("take", "a"), ("take", "b"), ("move", "a", 1), ("move", "a", 2), ("move", "b", 0), ("move", "b", 2), ("move", "c", 1),
            ("kind", "a", ("number", 0, 1)), ("kind", "a", ("some", 2)), ("kind", "b", ("one", 4)),
            ("wish", "a", ("is", "a", 0)), ("wish", "b", ("given", "c")), ("wish", "c", ("has", "a", 0)), ("wish", "c", ("is", "a", True)),
            ("wish", "c", ("given", "x")), ("wish", "a", deep(TRUE, 15)),
        ):
            self.refused(thing, "form")
        for wish in ODD_THINGS + (["all", ()], ("all", [])):
            self.refused(("wish", "a", wish), "form")
            self.refused(("put", 0, ("x", ("one", 2), wish)), "form")


if __name__ == "__main__":
    unittest.main()
