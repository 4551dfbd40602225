"""Points [12] and [13]: sentences and terms, and the names in them."""

import random
import unittest

from askfolds.terms import is_sentence, is_term, names_in, names_of
from tests.helpers import BIG, FALSE, ODD_THINGS, TRUE, random_form, random_sentence, random_term, spoiled

KINDS = (("s", ("some", 3)), ("b", ("one", 2)), ("n", ("number", -4, 4)))

SENTENCES = (
    TRUE, FALSE, ("given", "b"), ("given", "n"), ("given", "s"), ("is", "b", 0), ("is", "b", 7), ("is", "b", BIG),
    ("has", "s", 0), ("has", "s", BIG), ("not", TRUE), ("not", ("not", ("is", "b", 1))), ("all", (TRUE, FALSE, ("given", "b"))),
    ("any", (("all", (("any", ()),)),)), ("least", (0, ()), 0), ("least", (-BIG, ()), BIG),
)
TERMS = (
    (0, ()), (-BIG, ()), (1, (("times", "n", 0),)), (1, (("times", "n", -BIG),)), (1, (("of", "b", ()),)),
    (1, (("of", "s", (1, -2, 0, 1, BIG, 1, 1, 1, 1, 1)),)), (1, (("where", TRUE, 1),)),
    (1, (("where", ("least", (0, (("where", ("is", "b", 1), 1), ("times", "n", 1))), 1), 1), ("of", "b", (1, 1)))),
)
NO_SENTENCES = (
    ("given", "c"), ("given", ""), ("given", True), ("given", ["b"]), ("given", ("b",)), ("given", None), ("given",),
    ("given", "b", 0), ("is", "c", 0), ("is", "n", 0), ("is", "s", 0), ("is", "b", -1), ("is", "b"), ("is", "b", 0, 0),
    ("is", "b", True), ("is", "b", False), ("is", "b", "0"), ("is", "b", (0,)), ("is", "b", None), ("is", ["b"], 0),
    ("has", "c", 0), ("has", "b", 0), ("has", "n", 0), ("has", "s", -1), ("has", "s", True), ("has", "s", (0,)), ("has", "s"),
    ("least", (0, ()), True), ("least", (0, ()), None), ("least", (0, ())), ("least", 0, 0), ("least", (0,), 0),
    ("least", (0, (("times", "b", 1),)), 0), ("least", (0, (("pieces", "b", (0, ())),)), 0), ("least", TRUE, 0),
    ("not",), ("not", "b"), ("not", (0, ())), ("not", TRUE, TRUE), ("not", (TRUE,)), ("not", ("given", "c")),
    ("all",), ("all", TRUE), ("all", [TRUE]), ("all", "b"), ("all", None), ("all", 0), ("all", (TRUE, "b")), ("all", (), ()),
    ("any", (TRUE, ("given", "c"))), ("any", (True,)), ("any", ""), ("none", ()), ("All", ()), (["all"], ()), ("all", (), 0),
    (("all", ()),), ("times", "n", 1), ("where", TRUE, 1), ("of", "b", ()),
)
NO_TERMS = (
    (True, ()), (None, ()), ("0", ()), (0,), (0, (), ()), (0, []), (0, None), (0, 0), (0, ""), (0, ((),)), (0, (0,)),
    (0, ("times", "n", 1)), (0, (("times", "n"),)), (0, (("times", "n", 1, 1),)), (0, (("times", "n", True),)),
    (0, (("times", "n", (1,)),)), (0, (("times", "b", 1),)), (0, (("times", "s", 1),)), (0, (("times", "c", 1),)),
    (0, (("times", ["n"], 1),)), (0, (["times", "n", 1],)), (0, (("of", "n", (1,)),)), (0, (("of", "c", (1,)),)),
    (0, (("of", "b", 1),)), (0, (("of", "b", [1]),)), (0, (("of", "b", (True,)),)), (0, (("of", "b", (1, False)),)),
    (0, (("of", "s", (1, None)),)), (0, (("of", "s", ((1,),)),)), (0, (("where", TRUE, True),)), (0, (("where", TRUE),)),
    (0, (("where", "b", 1),)), (0, (("where", ("given", "c"), 1),)), (0, (("where", (0, ()), 1),)), (0, (("given", "b"),)),
    (0, (("times", "n", 1), ("times", "n", None))), (0, (("pieces", "b", (0, ())),)), (0, (("pieces", "n", (0, ())),)),
    (0, (("is", "b", 1),)),
)


def wrapped(sentence, many):
    """Put the SENTENCE within so many others."""
    for turn in range(many):
        sentence = ("not", sentence)
    return sentence


class Sentences(unittest.TestCase):
    def test_the_documents_own(self):
        kinds = (("b", ("one", 2)),)
        self.assertIs(is_sentence(kinds, ("is", "b", 7)), True)
        for thing in (("is", "c", 0), ("has", "b", 0), ("is", "b", True)):
            self.assertIs(is_sentence(kinds, thing), False)

    def test_sentences(self):
        for thing in SENTENCES:
            self.assertIs(is_sentence(KINDS, thing), True, thing)
            self.assertIs(is_sentence(KINDS[::-1], thing), True, thing)

    def test_no_sentences(self):
        for thing in NO_SENTENCES + TERMS + ODD_THINGS:
            self.assertIs(is_sentence(KINDS, thing), False, thing)
            self.assertIs(is_sentence(KINDS, ("all", (TRUE, thing))), False, thing)
            self.assertIs(is_sentence(KINDS, wrapped(thing, 15)), False, thing)

    def test_of_no_kinds(self):
        for thing in (TRUE, FALSE, ("least", (0, (("where", TRUE, 1),)), 1)):
            self.assertIs(is_sentence((), thing), True)
        self.assertIs(is_sentence((), ("given", "b")), False)

    def test_large_things(self):
        self.assertIs(is_sentence(KINDS, wrapped(("given", "b"), 18)), True)
        self.assertIs(is_sentence(KINDS, wrapped(("given", "x"), 18)), False)
        self.assertIs(is_sentence(KINDS, ("all", (("given", "b"),) * 1600)), True)
        self.assertIs(is_sentence(KINDS, ("all", (("given", "b"),) * 1600 + (("given", "x"),))), False)
        self.assertIs(is_term(KINDS, (0, (("of", "b", (1,) * 4900),))), True)
        self.assertIs(is_term(KINDS, (0, (("of", "b", (1,) * 4900 + (True,)),))), False)

    def test_spoiled_ones(self):
        for thing in SENTENCES:
            for other in spoiled(thing):
                self.assertIs(is_sentence(KINDS, other), False, other)

    def test_random_ones(self):
        dice = random.Random(3)
        for turn in range(200):
            kinds = tuple(question[:2] for question in random_form(dice, 3))
            self.assertIs(is_sentence(kinds, random_sentence(dice, kinds, 4)), True)
            self.assertIs(is_term(kinds, random_term(dice, kinds, 4)), True)

    def test_names_of_the_arguments(self):
        self.assertIs(is_sentence(kinds=(), thing=TRUE), True)
        self.assertIs(is_term(kinds=(), thing=(0, ())), True)
        self.assertEqual(names_in(sentence=TRUE), ())
        self.assertEqual(names_of(term=(0, ())), ())


class Terms(unittest.TestCase):
    def test_terms(self):
        for thing in TERMS:
            self.assertIs(is_term(KINDS, thing), True, thing)
            self.assertIs(is_sentence(KINDS, ("least", thing, 0)), True, thing)

    def test_no_terms(self):
        for thing in NO_TERMS + SENTENCES + ODD_THINGS:
            self.assertIs(is_term(KINDS, thing), False, thing)
            self.assertIs(is_sentence(KINDS, ("least", thing, 0)), False, thing)

    def test_no_sentence_in_a_where(self):
        for thing in NO_SENTENCES:
            self.assertIs(is_term(KINDS, (0, (("where", thing, 1),))), False, thing)

    def test_spoiled_ones(self):
        for thing in TERMS:
            for other in spoiled(thing):
                self.assertIs(is_term(KINDS, other), False, other)


class Names(unittest.TestCase):
    def test_each_word(self):
        for sentence, told in (
            (TRUE, ()), (FALSE, ()), (("given", "b"), ("b",)), (("is", "b", 0), ("b",)), (("has", "s", 0), ("s",)),
            (("not", ("given", "b")), ("b",)), (("least", (0, ()), 0), ()), (("least", (0, (("times", "n", 1),)), 0), ("n",)),
            (("all", (("given", "n"), ("given", "b"), ("given", "n"))), ("b", "n")),
            (("any", (("given", "z"), ("not", ("given", "a")), ("any", ()))), ("a", "z")),
        ):
            self.assertEqual(names_in(sentence), told)

    def test_terms(self):
        for term, told in (
            ((5, ()), ()), ((0, (("times", "n", 0),)), ("n",)), ((0, (("of", "b", ()),)), ("b",)),
            ((0, (("of", "b", (0, 0)), ("times", "a10", 0), ("times", "a9", 0))), ("a10", "a9", "b")),
            ((0, (("where", ("given", "b"), 0), ("times", "a", 1), ("times", "a", 1))), ("a", "b")),
        ):
            self.assertEqual(names_of(term), told)
            self.assertEqual(names_in(("least", term, 0)), told)

    def test_however_deep(self):
        sentence = ("given", "y")
        for name in "mcx":
            sentence = ("all", (("least", (0, (("where", ("not", sentence), 0), ("times", name, 0))), 1), ("given", name)))
        self.assertEqual(names_in(sentence), ("c", "m", "x", "y"))


if __name__ == "__main__":
    unittest.main()
