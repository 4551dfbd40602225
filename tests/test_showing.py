"""Points [17] to [22] and [31]: stores of a form, and what they show."""

import itertools
import random
import unittest

from askfolds.errors import NoOrder
from askfolds.forms import is_form, kinds_of, names, question_of
from askfolds.kinds import answers, is_answer
from askfolds.orders import reordered
from askfolds.showing import aside, is_filling, is_store, opened, shown, sorted_store, view
from askfolds.terms import is_sentence
from askfolds.views import holds, value
from tests.helpers import (
    BIG, FALSE, ODD_THINGS, TRUE, lively_form, lively_sentence, random_pairs, random_term, spoiled, view_of,
    whole_stores
)

FORM = (
    ("n", ("number", -3, 4), TRUE),
    ("b", ("one", 3), ("least", (0, (("times", "n", 1),)), 1)),
    ("s", ("some", 3), ("is", "b", 0)),
)


class Stores(unittest.TestCase):
    def test_stores(self):
        for store in (
            (), (("n", -3),), (("n", 4), ("b", 2)), (("b", 0),), (("s", ()),), (("n", 0), ("s", (0, 2))), (("n", 1), ("b", 0), ("s", (0, 1, 2))),
        ):
            self.assertIs(is_store(FORM, store), True, store)
            for thing in spoiled(store):
                self.assertIs(is_store(FORM, thing), False, thing)
        self.assertIs(is_store((), ()), True)

    def test_no_stores(self):
        for thing in (
            (("b", 0), ("n", 0)), (("n", 0), ("n", 0)), (("n", 0), ("n", 1)), (("n", 5),), (("n", -4),), (("b", 3),), (("b", -1),), (("b", (0,)),),
            (("s", 0),), (("s", (1, 0)),), (("s", (0, 0)),), (("s", (3,)),), (("s", [0]),), (("s", (True,)),), (("n", True),), (("b", False),),
            (("n", None),), (("n", "0"),), (("x", 0),), (("", 0),), (("n",),), (("n", 0, 0),), (["n", 0],), [("n", 0)], [], ("n", 0), ((),),
            (("n", BIG),), ((["n"], 0),), ((True, 0),), ((0, "n"),), (("n", 1), ("s", ()), ("b", 0)), (("n", 1), None),
        ):
            self.assertIs(is_store(FORM, thing), False, thing)
            self.assertIs(is_filling(FORM, thing), False, thing)
        for form in (FORM, ()):
            for thing in ODD_THINGS:
                self.assertIs(is_store(form, thing), thing == (), thing)
                self.assertIs(is_filling(form, thing), thing == () and form == (), thing)

    def test_fillings(self):
        for store in ((("n", 0),), (("n", -3),), (("n", 1), ("b", 1)), (("n", 1), ("b", 0), ("s", ())), (("n", 4), ("b", 0), ("s", (0, 1, 2)))):
            self.assertIs(is_filling(FORM, store), True, store)
            for thing in spoiled(store):
                self.assertIs(is_filling(FORM, thing), False, thing)
        for store in (
            (), (("n", 1),), (("n", 0), ("b", 1)), (("n", 0), ("s", ())), (("n", 1), ("b", 0)), (("n", 1), ("b", 1), ("s", ())), (("b", 1),),
            (("n", 1), ("s", ())),
        ):
            self.assertIs(is_store(FORM, store), True)
            self.assertIs(is_filling(FORM, store), False, store)
        self.assertIs(is_filling((), ()), True)

    def test_sorted(self):
        pairs = (("n", 0), ("b", 2), ("s", (0, 2)))
        for many in range(4):
            for some in itertools.permutations(pairs, many):
                told = sorted_store(FORM, some)
                self.assertEqual(told, tuple(pair for pair in pairs if pair in some))
                self.assertTrue(is_store(FORM, told))

    def test_names_of_the_arguments(self):
        self.assertIs(is_store(form=(), thing=()), True)
        self.assertIs(is_filling(form=(), thing=()), True)
        self.assertEqual(sorted_store(form=FORM, pairs=()), ())
        for ask in (shown, opened, view, aside):
            self.assertEqual(ask(form=(), store=()), ())


class Shown(unittest.TestCase):
    def check(self, store, names, opens, seen, hidden, form=FORM):
        self.assertEqual((shown(form, store), opened(form, store)), (names, opens))
        self.assertEqual((view(form, store), aside(form, store)), (seen, hidden))

    def test_told(self):
        self.check((), ("n",), ("n",), (), ())
        self.check((("n", 0),), ("n",), (), (("n", 0),), ())
        self.check((("n", 1),), ("n", "b"), ("b",), (("n", 1),), ())
        self.check((("n", 1), ("b", 0)), ("n", "b", "s"), ("s",), (("n", 1), ("b", 0)), ())
        self.check((("n", 0), ("b", 0), ("s", ())), ("n",), (), (("n", 0),), (("b", 0), ("s", ())))
        self.check((("n", 1), ("b", 1), ("s", ())), ("n", "b"), (), (("n", 1), ("b", 1)), (("s", ()),))
        self.check((("b", 0), ("s", (1,))), ("n",), ("n",), (), (("b", 0), ("s", (1,))))
        self.check((("n", 1), ("s", (1,))), ("n", "b"), ("b",), (("n", 1),), (("s", (1,)),))

    def test_what_is_aside_comes_again(self):
        whole = (("n", 1), ("b", 0), ("s", (1, 2)))
        turned = (("n", 0),) + whole[1:]
        self.check(whole, ("n", "b", "s"), (), whole, ())
        self.check(turned, ("n",), (), turned[:1], turned[1:])
        self.check(sorted_store(FORM, turned[1:] + (("n", 1),)), ("n", "b", "s"), (), whole, ())

    def test_open_ones_show_others(self):
        form = (("a", ("one", 2), TRUE), ("b", ("one", 2), ("not", ("given", "a"))), ("c", ("one", 2), ("given", "b")))
        self.check((), ("a", "b"), ("a", "b"), (), (), form=form)
        self.check((("b", 1),), ("a", "b", "c"), ("a", "c"), (("b", 1),), (), form=form)
        self.check((("a", 1), ("b", 1)), ("a",), (), (("a", 1),), (("b", 1),), form=form)


class Promises(unittest.TestCase):
    def test_by_random_forms(self):
        dice = random.Random(17)
        for turn in range(300):
            form = lively_form(dice, dice.randint(1, 6))
            store = random_pairs(dice, form)
            seen = view(form, store)
            self.assertEqual(seen, view_of(form, store))
            self.assertEqual(shown(form, store), tuple(
                name for at, (name, kind, wish) in enumerate(form) if holds(view_of(form[:at], store), wish)
            ))
            self.assertEqual(opened(form, store), tuple(name for name in shown(form, store) if name not in dict(store)))
            self.assertEqual(sorted_store(form, seen + aside(form, store)), store)
            self.assertEqual(set(seen) & set(aside(form, store)), set())
            filled = opened(form, store) == () and aside(form, store) == ()
            self.assertIs(is_filling(form, store), filled)

    def test_a_view_taken_as_a_store(self):
        dice = random.Random(19)
        for turn in range(300):
            form = lively_form(dice, dice.randint(1, 6))
            store = random_pairs(dice, form)
            seen = view(form, store)
            self.assertTrue(is_store(form, seen) and is_store(form, aside(form, store)))
            self.assertEqual((shown(form, seen), opened(form, seen)), (shown(form, store), opened(form, store)))
            self.assertEqual((view(form, seen), aside(form, seen)), (seen, ()))
            hidden = [question for question in form if question[0] not in shown(form, store)]
            beside = random_pairs(dice, hidden)
            more = sorted_store(form, beside + seen)
            self.assertEqual((view(form, more), aside(form, more)), (seen, sorted_store(form, beside)))

    def test_whole_stores(self):
        dice = random.Random(20)
        for turn in range(60):
            form = lively_form(dice, 3)
            for store in whole_stores(form):
                self.assertTrue(is_filling(form, view(form, store)))
            store = random_pairs(dice, form)
            if opened(form, store) == ():
                self.assertTrue(is_filling(form, view(form, store)))
                continue
            name = opened(form, store)[0]
            ahead = names(form)[:names(form).index(name)]
            for answer in answers(question_of(form, name)[1]):
                more = sorted_store(form, store + ((name, answer),))
                for ask in (shown, opened):
                    self.assertEqual(*[[one for one in ask(form, some) if one in ahead] for some in (store, more)])
                for ask in (view, aside):
                    self.assertEqual(*[[pair for pair in ask(form, some) if pair[0] in ahead] for some in (store, more)])
                self.assertIn((name, answer), view(form, more))

    def test_without_a_not_an_answer_hides_nobody(self):
        dice = random.Random(21)
        answered = 0
        for turn in range(600):
            form = tuple((name, kind, rising(wish)) for name, kind, wish in lively_form(dice, 5))
            if any(kind[0] == "number" and kind[1] < 0 for name, kind, wish in form):
                continue
            self.assertTrue(is_form(form))
            store = random_pairs(dice, form)
            for name in opened(form, store):
                for answer in answers(question_of(form, name)[1]):
                    more = sorted_store(form, store + ((name, answer),))
                    self.assertTrue(set(shown(form, store)) <= set(shown(form, more)))
                    answered += 1
        self.assertGreater(answered, 50)

    def test_another_order(self):
        dice = random.Random(31)
        turned = 0
        for turn in range(80):
            form = lively_form(dice, 4)
            sentence, term = lively_sentence(dice, kinds_of(form), 2), random_term(dice, kinds_of(form), 2)
            store = random_pairs(dice, form)
            for order in itertools.permutations(names(form)):
                try:
                    other = reordered(form, order)
                except NoOrder:
                    continue
                turned += 1
                again = sorted_store(other, store)
                for ask in (shown, opened, view, aside):
                    self.assertEqual(sorted(ask(form, store)), sorted(ask(other, again)))
                self.assertEqual(holds(view(form, store), sentence), holds(view(other, again), sentence))
                self.assertEqual(value(view(form, store), term), value(view(other, again), term))
        self.assertGreater(turned, 200)

    def test_what_is_told_may_be_handed_in_again(self):
        dice = random.Random(22)
        for turn in range(60):
            form = lively_form(dice, 4)
            store = random_pairs(dice, form)
            self.assertTrue(is_form(tuple(question_of(form, name) for name in names(form))))
            for name, kind in kinds_of(form):
                self.assertTrue(all(is_answer(kind, answer) for answer in answers(kind)))
            for pairs in (view(form, store), aside(form, store), store):
                turned = tuple(dice.sample(pairs, len(pairs)))
                self.assertEqual(sorted_store(form, turned), pairs)
                sentence = lively_sentence(dice, kinds_of(form), 3)
                self.assertTrue(is_sentence(kinds_of(form), sentence))
                self.assertIs(holds(turned, sentence), holds(pairs, sentence))


def rising(sentence):
    """Write the SENTENCE without a "not", and with no weight below 0."""
    word, about = sentence[0], sentence[1]
    if word == "not":
        return rising(about)
    if word in ("all", "any"):
        return word, tuple(rising(one) for one in about)
    if word == "least":
        return word, (about[0], tuple(rising_part(part) for part in about[1])), sentence[2]
    return sentence


def rising_part(part):
    """Write the PART so that it has no weight below 0."""
    word, about, weight = part
    if word == "of":
        return word, about, tuple(abs(number) for number in weight)
    return word, rising(about) if word == "where" else about, abs(weight)


if __name__ == "__main__":
    unittest.main()
