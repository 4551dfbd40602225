"""Point [87]: what is written is read again."""

import random
import unittest

from askfolds import readings, texts
from askfolds.errors import NoText
from tests.helpers import BIG, FALSE, TRUE, random_form, random_sentence, random_term

TWELVE = 10 ** 12 - 1
PIECES = (3, (("pieces", "kid", (1, (("times", "n", 2), ("where", ("least", (0, (("of", "b", (1,)),)), 1), 4)))),))


def nots(many, sentence):
    """Put the SENTENCE within so many others."""
    for turn in range(many):
        sentence = ("not", sentence)
    return sentence


class Reading(unittest.TestCase):
    def refused(self, read, text, word, row=0):
        with self.assertRaises(NoText) as caught:
            read(text)
        self.assertEqual((caught.exception.row, caught.exception.word), (row, word), text)

    def refused_all(self, read, rows):
        for text, word in rows:
            self.refused(read, text, word)


class SingleWords(Reading):
    def test_answers(self):
        for answer in (0, 7, -7, 10, TWELVE, -TWELVE, (), (0,), (0, 2), (9, 10, 11), (TWELVE,)):
            self.assertEqual(readings.read_answer(texts.shown_answer(answer)), answer)

    def test_no_answers(self):
        for text in (
            "", "-", "-0", "00", "01", "-01", "+1", "1.", "1_0", "a", str(TWELVE + 1), str(-TWELVE - 1), str(BIG), "//", "/0/",
            "//0", "/0//1", "/1/0", "/0/0", "/-1", "/01", "/a", "0/", "0/1", f"/{TWELVE + 1}", "--1", "\u0663", "\u00b2", "1\n",
            "\t1", "/0/0/1",
        ):
            self.refused(readings.read_answer, text, 0)
        self.refused_all(readings.read_answer, ((" 1", 0), ("1 ", 1), ("1 1", 1), ("  1", 0), ("1  1", 1), (" ", 0), ("x x", 0)))

    def test_spots(self):
        for spot in ("age", "a", "abcdefgh", "a1", ("age", 2), ("a", 0), ("a9", 12), ("a", TWELVE)):
            self.assertEqual(readings.read_spot(texts.shown_spot(spot)), spot)

    def test_no_spots(self):
        for text in (
            "", "Age", "1", "abcdefghi", "age.", ".2", "age.-1", "age.01", "age.00", "age.1.2", "age..2", "age.x", ".", "a_b",
            f"age.{TWELVE + 1}", "abcdefghi.1", "age=1", "age.+1", "-", "age. ",
        ):
            self.refused(readings.read_spot, text, 0)
        self.refused_all(readings.read_spot, ((" age", 0), ("age ", 1), ("age 2", 1), ("age.2 age", 1), ("age  2", 1)))

    def test_pairs(self):
        for pairs in (
            (), (("a", 0),), (("a", -3), ("b", ()), ("c1", (0, 1))), (("a", 1), ("a", 2)), (("abcdefgh", TWELVE),),
        ):
            self.assertEqual(readings.read_pairs(texts.shown_pairs(pairs)), pairs)

    def test_no_pairs(self):
        self.refused_all(readings.read_pairs, (
            ("", 0), (" ", 0), ("- -", 1), ("- ", 1), (" -", 0), ("- a=1", 1), ("a=1 -", 1), ("a=1 ;", 1), (";", 0), ("- ;", 1),
            ("a", 0), ("a=", 0), ("=1", 0), ("a=1=1", 0), ("a==1", 0), ("A=1", 0), ("a=1 b", 1), ("a=1  b=1", 1), ("a=1 ", 1),
            ("a=x", 0), ("a=01", 0), ("a=/1/0", 0), ("a=1 b=2 c=/0/0", 2), ("abcdefghi=1", 0), (f"a={TWELVE + 1}", 0),
        ))


class Sentences(Reading):
    def test_each_word(self):
        for sentence in (
            TRUE, FALSE, ("given", "b"), ("is", "b", 0), ("is", "b", TWELVE), ("has", "s", 3), ("not", TRUE),
            ("least", (-TWELVE, ()), -4), ("all", (TRUE, ("any", (("given", "b"),)), FALSE)), ("least", PIECES, 0),
            ("given", "given"), ("is", "is", 0),
        ):
            self.assertEqual(readings.read_sentence(texts.shown_sentence(sentence)), sentence)

    def test_refused(self):
        self.refused_all(readings.read_sentence, (
            ("", 0), (" ", 0), ("b", 0), ("given", 1), ("given ", 1), ("given  b", 1), (" given b", 0), ("given b ", 2),
            ("given b b", 2), ("given B", 1), ("given abcdefghi", 1), ("is b", 2), ("is b -1", 2), ("is b x", 2), ("is b 00", 2),
            ("has s -1", 2), ("has s", 2), ("has 1 1", 1), (f"is b {TWELVE + 1}", 2), ("not", 1), ("not b", 1), ("not not", 2),
            ("all", 1), ("all -1", 1), ("all x", 1), ("all 01", 1), ("all 2 all 0", 4), ("all 1 all 0 all 0", 4), ("any 0 any 0", 2),
            (f"all {TWELVE}", 2), (f"all {TWELVE} any 0", 4), ("least", 1), ("least 0", 1), ("least sum", 2), ("least sum 0", 3),
            ("least sum 0 0", 4), ("least sum 0 0 x", 4), ("least sum 0 0 -0", 4), ("least sum 0 1 1", 4), ("Given b", 0),
            ("sum 0 0", 0), ("times n 1", 0), ("least sum 0 0 1 1", 5), ("given -", 1),
        ))

    def test_within_fifteen_and_sixteen(self):
        for inner in (("given", "b"), TRUE, ("least", (0, ()), 0)):
            self.assertEqual(readings.read_sentence(texts.shown_sentence(nots(15, inner))), nots(15, inner))
            self.refused(readings.read_sentence, texts.shown_sentence(nots(16, inner)), 16)
            self.refused(readings.read_sentence, texts.shown_sentence(nots(18, inner)), 16)
        self.refused(readings.read_sentence, "not " * 15 + "not", 16)
        self.refused(readings.read_sentence, "not " * 14 + "not", 15)

    def test_all_sentences_around_count(self):
        for around, many in (
            (lambda inner: ("all", (inner,)), 2), (lambda inner: ("any", (inner,)), 2),
            (lambda inner: ("least", (0, (("where", inner, 1),)), 1), 5),
        ):
            sentence = TRUE
            for turn in range(15):
                sentence = around(sentence)
            self.assertEqual(readings.read_sentence(texts.shown_sentence(sentence)), sentence)
            self.refused(readings.read_sentence, texts.shown_sentence(around(sentence)), 16 * many)
        # Only those around one another count, not those beside.
        wide = ("all", (nots(14, TRUE), nots(14, FALSE)))
        self.assertEqual(readings.read_sentence(texts.shown_sentence(wide)), wide)

    def test_a_term_is_within_no_sentence(self):
        term = (0, (("where", nots(15, TRUE), 1), ("pieces", "kid", (0, (("where", nots(15, TRUE), 1),)))))
        self.assertEqual(readings.read_term(texts.shown_term(term)), term)
        self.refused(readings.read_term, texts.shown_term((0, (("where", nots(16, TRUE), 1),))), 4 + 16)
        self.refused(readings.read_sentence, "least sum 0 1 where " + "not " * 15 + "all 0 1 0", 5 + 15)


    def test_wishes_are_within_no_sentence(self):
        within = texts.shown_sentence(nots(15, TRUE))
        for read, start, end in (
            (readings.read_change, "wish b ", ""), (readings.read_change, "put - 0 ask b one 2 ", ""),
            (readings.read_change, "put - 0 block kid 2 ", " 0"), (readings.read_change, "put - 0 block kid 2 all 0 1 b one 2 ", ""),
        ):
            many = len(start.split())
            self.assertEqual(texts.shown_change(read(start + within + end)), start + within + end)
            self.refused(read, start + "not " + within + end, many + 16)
            if start.startswith("put"):
                item, ahead = start[len("put - 0 "):], many - 3
                self.assertEqual(texts.shown_form(readings.read_form([item + within + end])), [item + within + end])
                self.refused(readings.read_form, [item + "not " + within + end], ahead + 16)


class Terms(Reading):
    def test_each_part(self):
        for term in (
            (0, ()), (-5, ()), (1, (("times", "n", -3),)), (1, (("of", "b", ()),)), (1, (("of", "b", (0, -1, TWELVE)),)),
            (1, (("where", ("is", "b", 1), -4), ("times", "n", 0))), PIECES, (0, (("where", ("least", PIECES, 0), 1),)),
            (0, (("pieces", "kid", (0, ())), ("pieces", "kid", (0, ())))),
        ):
            self.assertEqual(readings.read_term(texts.shown_term(term)), term)

    def test_the_documents_own(self):
        sentence = ("least", (2, (("times", "age", -3), ("of", "c", (0, 5)))), 10)
        self.assertEqual(readings.read_sentence("least sum 2 2 times age -3 of c 2 0 5 10"), sentence)

    def test_refused(self):
        self.refused_all(readings.read_term, (
            ("", 0), ("0", 0), ("sum", 1), ("sum x", 1), ("sum 0", 2), ("sum 0 -1", 2), ("sum 0 0 0", 3), ("sum 0 0 ", 3),
            ("sum 0 1", 3), ("sum 0 1 sum 0 0", 3), ("sum 0 1 times", 4), ("sum 0 1 times n", 5), ("sum 0 1 times n x", 5),
            ("sum 0 1 times 1 n", 4), ("sum 0 1 of b", 5), ("sum 0 1 of b -1", 5), ("sum 0 1 of b 2 1", 7),
            ("sum 0 1 of b 1 1 1", 7), ("sum 0 1 of b 1 -0", 6), (f"sum 0 1 of b {TWELVE} 1", 7), ("sum 0 1 where", 4),
            ("sum 0 1 where b 1", 4), ("sum 0 1 where given b", 6), ("sum 0 1 where given b x", 6), ("sum 0 1 given b", 3),
            ("sum 0 1 pieces", 4), ("sum 0 1 pieces kid", 5), ("sum 0 1 pieces kid 0", 5), ("sum 0 1 pieces K sum 0 0", 4),
            ("sum 0 1 pieces kid sum 0 1 pieces kid sum 0 0", 8), ("given b", 0), ("sum  0 0", 1), (" sum 0 0", 0),
            ("sum 0 1 pieces kid sum 0 1 where least sum 0 1 pieces kid sum 0 0 0 0", 13),
            ("sum 0 2 pieces kid sum 0 0 where least sum 0 1 pieces", 14), (f"sum {TWELVE + 1} 0", 1),
        ))


QUESTION = ("b", ("one", 2), TRUE)
FORM = (QUESTION, ("n", ("number", -3, 4), ("is", "b", 1)), ("s", ("some", TWELVE), FALSE), ("m", ("number", 5, 5), TRUE))
FOLD = FORM[:1] + (("kid", 3, ("given", "b"), FORM[1:]), ("none", 1, ("least", PIECES, 0), ()))


class Changes(Reading):
    def test_changes(self):
        for change in (
            ("put", "", 0, QUESTION), ("put", "kid", -1, QUESTION), ("put", "", TWELVE, FOLD[1]), ("take", "b"),
            ("move", "b", -2), ("kind", "b", ("number", -1, 1)), ("kind", "b", ("some", 2)), ("kind", "b", ("one", 1)),
            ("wish", "b", ("least", PIECES, 1)), ("most", "kid", 0), ("most", "kid", -3), ("put", "put", 0, QUESTION),
        ):
            self.assertEqual(readings.read_change(texts.shown_change(change)), change)

    def test_refused(self):
        self.refused_all(readings.read_change, (
            ("", 0), ("b", 0), ("put", 1), ("put -", 2), ("put - x", 2), ("put - 0", 3), ("put - 0 b one 2 all 0", 3),
            ("put - 0 ask", 4), ("put B 0 ask b one 2 all 0", 1), ("put kid 0 block", 3), ("put kid 0 block pet 2 all 0 0", 3),
            ("put - 0 block", 4), ("put - 0 block pet", 5), ("put - 0 block pet 0", 5), ("put - 0 block pet 2 all 0", 8),
            ("put - 0 block pet 2 all 0 1", 9), ("put - 0 block pet 2 all 0 1 ask", 10), ("put - 0 ask b one 2 all 0 0", 9),
            ("take", 1), ("take -", 1), ("take b 0", 2), ("move b", 2), ("move b x", 2), ("move b 00", 2), ("kind b", 2),
            ("kind b two", 2), ("kind b one", 3), ("kind b one 0", 3), ("kind b some 0", 3), ("kind b some -1", 3),
            ("kind b number 1", 4), ("kind b number 1 0", 4), ("kind b number -1 -2", 4), ("kind b number -2 -1 0", 5),
            ("wish b", 2), ("wish b b", 2), ("wish b all 0 0", 4), ("most kid", 2), ("most kid 1 1", 3), ("most 1 1", 1),
            ("put -  0", 2), (" take b", 0), ("take b ", 2), ("leaf", 0),
        ))


class Lists(Reading):
    def test_forms(self):
        for form in ((), FORM, FOLD):
            self.assertEqual(readings.read_form(texts.shown_form(form)), form)

    def test_names_and_sorts_are_not_asked(self):
        lines = ["ask b one 2 is n 0", "ask b one 2 given b", "block b 1 has b 0 1 b one 1 least sum 0 1 pieces b sum 0 0 0"]
        told = (
            ("b", ("one", 2), ("is", "n", 0)), ("b", ("one", 2), ("given", "b")),
            ("b", 1, ("has", "b", 0), (("b", ("one", 1), ("least", (0, (("pieces", "b", (0, ())),)), 0)),)),
        )
        self.assertEqual(readings.read_form(lines), told)

    def test_no_forms(self):
        right = "ask b one 2 all 0"
        for text, word in (
            ("", 0), ("b one 2 all 0", 0), ("ask", 1), ("ask b", 2), ("ask b all 0", 2), ("ask b one", 3), ("ask b one 0", 3),
            ("ask b one 2", 4), ("ask b one 2 all", 5), ("ask b one 2 all 0 ", 6), ("ask  b", 1), ("block kid 0 all 0 0", 2),
            ("block kid 1 all 0 2 b one 2 all 0", 11), ("block kid 1 all 0 0 b", 6), ("block kid 1 all 0 -1", 5), ("leaf", 0),
            ("block kid 1 all 0 1 ask b one 2 all 0", 7), ("block kid all 0 0", 2), ("ask b some 13_ all 0", 3),
        ):
            self.refused(readings.read_form, [text], word)
            self.refused(readings.read_form, [right, right, text, "", right], word, row=2)

    def test_fold_stores(self):
        for store in (
            ((), ()), ((("a", 1), ("d", (0,))), ((), ((),), ((("b", 2), ("c", ())), (), (("b", -1),)))), ((), (((), ()),)),
        ):
            self.assertEqual(readings.read_fold_store(texts.shown_fold_store(store)), store)

    def test_no_fold_stores(self):
        self.refused(readings.read_fold_store, [], 0)
        for text, word in (("", 0), ("0", 0), ("- ;", 1), ("a=1 ;", 1), ("a=1 -", 1), ("a=1 ", 1), (";", 0)):
            self.refused(readings.read_fold_store, [text], word)
            self.refused(readings.read_fold_store, [text, "x"], word)
        for text, word in (
            ("", 0), ("-", 0), ("-1", 0), ("x", 0), ("01", 0), ("0 ", 1), ("0 ;", 1), ("0 -", 1), ("1", 1), ("1 -", 1), ("1 a=1", 1),
            ("1 ;", 2), ("1 ; ;", 2), ("1 ; - -", 3), ("1 ; - a=1", 3), ("1 ; a=1 -", 3), ("1 ; - ;", 3), ("1 ; a=1 ;", 3),
            ("2 ; -", 3), ("2 ; a=1 b=/", 4), ("2 ; - ;", 4), ("2 ; - a=1", 3), ("2 ; a=1 ; b", 4), ("2 ; a=1 ;  ", 4), ("1 ;  -", 2),
            ("1 ; - ", 3), ("1;", 0), ("1 ;-", 1), (f"{TWELVE} ; -", 3), ("2 ; ; -", 2),
        ):
            self.refused(readings.read_fold_store, ["-", text], word, row=1)
            self.refused(readings.read_fold_store, ["a=1", "0", "1 ; -", text, ""], word, row=3)

    def test_cases(self):
        cases = (("cut", "n", -3), ("each", "b"), ("with", "s", -1), ("leaf",), ("cut", "n", TWELVE))
        self.assertEqual(readings.read_cases(texts.shown_cases(cases)), cases)
        self.assertEqual(readings.read_cases([]), ())

    def test_no_cases(self):
        for text, word in (
            ("", 0), ("x", 0), ("leaf leaf", 1), ("leaf ", 1), (" leaf", 0), ("each", 1), ("each b 1", 2), ("each 1", 1), ("cut", 1),
            ("cut n", 2), ("cut n x", 2), ("cut n 1 1", 3), ("with s", 2), ("with  s", 1), ("with s -0", 2), ("Leaf", 0),
            (f"cut n {TWELVE + 1}", 2),
        ):
            self.refused(readings.read_cases, [text], word)
            self.refused(readings.read_cases, ["leaf", text, "x"], word, row=1)

    def test_names_of_the_arguments(self):
        self.assertEqual(readings.read_answer(text="1"), 1)
        self.assertEqual(readings.read_spot(text="a"), "a")
        self.assertEqual(readings.read_sentence(text="all 0"), TRUE)
        self.assertEqual(readings.read_term(text="sum 0 0"), (0, ()))
        self.assertEqual(readings.read_pairs(text="-"), ())
        self.assertEqual(readings.read_change(text="take b"), ("take", "b"))
        self.assertEqual(readings.read_form(lines=[]), ())
        self.assertEqual(readings.read_fold_store(lines=["-"]), ((), ()))
        self.assertEqual(readings.read_cases(lines=["leaf"]), (("leaf",),))

    def test_a_list_handed_in_stays(self):
        lines = ["-", "1 ; a=1"]
        readings.read_fold_store(lines)
        self.assertEqual(lines, ["-", "1 ; a=1"])


class Random(Reading):
    def test_what_is_written_is_read_as_the_same(self):
        dice = random.Random(9)
        for turn in range(300):
            form = random_form(dice, 4)
            kinds = [question[:2] for question in form]
            self.assertEqual(readings.read_form(texts.shown_form(form)), form)
            sentence, term = random_sentence(dice, kinds, 6), random_term(dice, kinds, 6)
            self.assertEqual(readings.read_sentence(texts.shown_sentence(sentence)), sentence)
            self.assertEqual(readings.read_term(texts.shown_term(term)), term)

    def test_the_first_word_that_cannot_stand_hangs_on_those_ahead_alone(self):
        dice = random.Random(10)
        pool = "given is has least not all any sum times of where pieces a b 0 1 2 -1 x= ;".split() + [""]
        for turn in range(2000):
            words = texts.shown_sentence(random_sentence(dice, [("a", ("one", 2)), ("b", ("number", 0, 1))], 4)).split(" ")
            words[dice.randrange(len(words))] = dice.choice(pool)
            try:
                readings.read_sentence(" ".join(words))
            except NoText as caught:
                stopped = caught.word
            else:
                continue
            if 0 < stopped:
                # What is ahead of it can stand: alone it is whole already, or lacks a word.
                try:
                    readings.read_sentence(" ".join(words[:stopped]))
                except NoText as caught:
                    self.assertEqual(caught.word, stopped)
            if stopped < len(words):
                self.refused(readings.read_sentence, " ".join(words[:stopped + 1] + ["given", "a"]), stopped)


if __name__ == "__main__":
    unittest.main()
