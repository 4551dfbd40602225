"""Point [86]: what is written."""

import unittest

from askfolds import texts
from tests.helpers import BIG, FALSE, TRUE


class Texts(unittest.TestCase):
    def test_answers(self):
        for answer, told in (
            (0, "0"), (7, "7"), (-7, "-7"), (BIG, str(BIG)), ((), "/"), ((0,), "/0"), ((0, 2), "/0/2"), ((10, 11), "/10/11"),
        ):
            self.assertEqual(texts.shown_answer(answer), told)

    def test_spots(self):
        for spot, told in (("age", "age"), (("age", 2), "age.2"), (("a", 0), "a.0"), (("a", 12), "a.12")):
            self.assertEqual(texts.shown_spot(spot), told)

    def test_the_documents_own_sentence(self):
        sentence = ("least", (2, (("times", "age", -3), ("of", "c", (0, 5)))), 10)
        self.assertEqual(texts.shown_sentence(sentence), "least sum 2 2 times age -3 of c 2 0 5 10")

    def test_sentences(self):
        for sentence, told in (
            (("given", "b"), "given b"), (("is", "b", 3), "is b 3"), (("has", "b", 0), "has b 0"),
            (("not", ("given", "b")), "not given b"), (TRUE, "all 0"), (FALSE, "any 0"),
            (("all", (TRUE, ("given", "b"))), "all 2 all 0 given b"), (("any", (("not", FALSE),)), "any 1 not any 0"),
            (("least", (0, ()), -1), "least sum 0 0 -1"),
        ):
            self.assertEqual(texts.shown_sentence(sentence), told)

    def test_terms(self):
        for term, told in (
            ((0, ()), "sum 0 0"), ((-BIG, ()), f"sum -{BIG} 0"), ((1, (("of", "b", ()),)), "sum 1 1 of b 0"),
            ((1, (("of", "b", (-1,)), ("times", "n", 0))), "sum 1 2 of b 1 -1 times n 0"),
            ((0, (("where", ("is", "b", 1), -4),)), "sum 0 1 where is b 1 -4"),
            ((0, (("pieces", "kid", (3, (("times", "n", 2),))),)), "sum 0 1 pieces kid sum 3 1 times n 2"),
            ((0, (("where", ("least", (1, (("pieces", "kid", (0, ())),)), 2), 3), ("times", "n", 1))),
             "sum 0 2 where least sum 1 1 pieces kid sum 0 0 2 3 times n 1"),
        ):
            self.assertEqual(texts.shown_term(term), told)

    def test_pairs(self):
        for pairs, told in (
            ((), "-"), ((("a", 0),), "a=0"), ((("a", -3), ("b", ()), ("c1", (0, 1))), "a=-3 b=/ c1=/0/1"),
        ):
            self.assertEqual(texts.shown_pairs(pairs), told)

    def test_forms_and_folds(self):
        form = (("a", ("one", 2), TRUE), ("b", ("number", -3, 4), ("is", "a", 1)), ("c", ("some", 3), FALSE))
        told = ["ask a one 2 all 0", "ask b number -3 4 is a 1", "ask c some 3 any 0"]
        self.assertEqual(texts.shown_form(form), told)
        fold = form[:1] + (("kid", 3, ("given", "a"), form[1:]), ("none", 1, TRUE, ()))
        told = ["ask a one 2 all 0", "block kid 3 given a 2 b number -3 4 is a 1 c some 3 any 0", "block none 1 all 0 0"]
        self.assertEqual(texts.shown_form(fold), told)
        self.assertEqual(texts.shown_form(()), [])

    def test_fold_stores(self):
        self.assertEqual(texts.shown_fold_store(((), ())), ["-"])
        store = ((("a", 1), ("d", (0,))), ((), ((),), ((("b", 2), ("c", ())), (), (("b", -1),))))
        self.assertEqual(texts.shown_fold_store(store), ["a=1 d=/0", "0", "1 ; -", "3 ; b=2 c=/ ; - ; b=-1"])

    def test_cases(self):
        self.assertEqual(texts.shown_cases(()), [])
        cases = (("cut", "n", -3), ("each", "b"), ("with", "s", 1), ("leaf",))
        self.assertEqual(texts.shown_cases(cases), ["cut n -3", "each b", "with s 1", "leaf"])

    def test_changes(self):
        question = ("b", ("one", 2), TRUE)
        for change, told in (
            (("put", "", 0, question), "put - 0 ask b one 2 all 0"),
            (("put", "kid", -1, question), "put kid -1 ask b one 2 all 0"),
            (("put", "", 2, ("kid", 2, FALSE, (question,))), "put - 2 block kid 2 any 0 1 b one 2 all 0"),
            (("take", "b"), "take b"), (("move", "b", -2), "move b -2"),
            (("kind", "b", ("number", -1, 1)), "kind b number -1 1"), (("kind", "b", ("some", 2)), "kind b some 2"),
            (("wish", "b", ("not", TRUE)), "wish b not all 0"), (("most", "kid", 0), "most kid 0"),
        ):
            self.assertEqual(texts.shown_change(change), told)

    def test_told_lists_are_the_askers_own(self):
        for asked in (
            lambda: texts.shown_form((("a", ("one", 2), TRUE),)), lambda: texts.shown_fold_store(((), ())),
            lambda: texts.shown_cases((("leaf",),)), lambda: texts.shown_form(()), lambda: texts.shown_cases(()),
        ):
            told = asked()
            self.assertIsInstance(told, list)
            before = list(told)
            told.append("more")
            self.assertEqual(asked(), before)

    def test_names_of_the_arguments(self):
        self.assertEqual(texts.shown_answer(answer=1), "1")
        self.assertEqual(texts.shown_spot(spot="a"), "a")
        self.assertEqual(texts.shown_sentence(sentence=TRUE), "all 0")
        self.assertEqual(texts.shown_term(term=(0, ())), "sum 0 0")
        self.assertEqual(texts.shown_pairs(pairs=()), "-")
        self.assertEqual(texts.shown_change(change=("take", "b")), "take b")
        self.assertEqual(texts.shown_form(form=()), [])
        self.assertEqual(texts.shown_fold_store(store=((), ())), ["-"])
        self.assertEqual(texts.shown_cases(cases=()), [])


if __name__ == "__main__":
    unittest.main()
