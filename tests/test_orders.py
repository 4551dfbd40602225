"""Points [29] to [31]: who looks at whom, and other orders."""

import itertools
import random
import unittest

from askfolds.counting import how_many
from askfolds.errors import NoName, NoOrder
from askfolds.forms import is_form, names
from askfolds.orders import ahead, behind, reordered
from askfolds.terms import names_in
from askfolds.views import holds, value
from tests.helpers import ODD_THINGS, TRUE, lively_form, lively_sentence, random_term, view_of, whole_stores

FORM = (
    ("a", ("one", 2), TRUE),
    ("b", ("number", 0, 3), ("is", "a", 0)),
    ("c", ("some", 2), TRUE),
    ("d", ("one", 2), ("not", ("any", (("least", (0, (("times", "b", 0),)), 1), TRUE)))),
    ("e", ("one", 2), ("least", (0, (("where", ("all", (("has", "c", 9),)), 0), ("of", "d", ()))), -5)),
    ("f", ("one", 2), ("given", "c")),
    ("g", ("one", 2), TRUE),
)


class Looks(unittest.TestCase):
    def test_ahead(self):
        for name, told in (
            ("a", ()), ("b", ("a",)), ("c", ()), ("d", ("a", "b")), ("e", ("a", "b", "c", "d")), ("f", ("c",)), ("g", ()),
        ):
            self.assertEqual(ahead(FORM, name), told)

    def test_behind(self):
        for name, told in (
            ("a", ("b", "d", "e")), ("b", ("d", "e")), ("c", ("e", "f")), ("d", ("e",)), ("e", ()), ("f", ()), ("g", ()),
        ):
            self.assertEqual(behind(FORM, name), told)

    def test_in_the_order_of_the_form(self):
        form = (("z", ("one", 2), TRUE), ("y", ("one", 2), TRUE), ("x", ("one", 2), ("all", (("given", "y"), ("given", "z")))))
        self.assertEqual(ahead(form, "x"), ("z", "y"))
        form = (("z", ("one", 2), TRUE), ("y", ("one", 2), ("given", "z")), ("a", ("one", 2), ("given", "z")))
        self.assertEqual(behind(form, "z"), ("y", "a"))

    def test_names_that_the_form_has_not(self):
        for ask in (ahead, behind):
            for form in (FORM, ()):
                for name in ("x", "aa", "A") + tuple(thing for thing in ODD_THINGS if thing != "a"):
                    with self.assertRaises(NoName) as caught:
                        ask(form, name)
                    self.assertIs(caught.exception.name, name)

    def test_by_random_forms(self):
        dice = random.Random(29)
        for turn in range(100):
            form = lively_form(dice, 6)
            before = {}
            for name, kind, wish in form:
                before[name] = set(names_in(wish)).union(*[before[one] for one in names_in(wish)])
                self.assertEqual(ahead(form, name), tuple(one for one in names(form) if one in before[name]))
            for name in names(form):
                self.assertEqual(behind(form, name), tuple(one for one in names(form) if name in before[one]))

    def test_names_of_the_arguments(self):
        self.assertEqual(ahead(form=FORM, name="b"), ("a",))
        self.assertEqual(behind(form=FORM, name="d"), ("e",))
        self.assertEqual(reordered(form=(), some=()), ())


class Reordered(unittest.TestCase):
    def refused(self, some, word, form=FORM):
        with self.assertRaises(NoOrder) as caught:
            reordered(form, some)
        self.assertEqual(caught.exception.word, word, some)

    def test_told(self):
        for order in ("abcdefg", "gcfabde", "cabdefg", "acbdgfe"):
            told = reordered(FORM, tuple(order))
            self.assertEqual(names(told), tuple(order))
            self.assertEqual(sorted(told), sorted(FORM))
            self.assertTrue(is_form(told))
        self.assertEqual(reordered((), ()), ())

    def test_names(self):
        for some in (
            (), ("a",), tuple("abcdef"), tuple("abcdefgh"), tuple("aabcdef"), tuple("aabcdefg"), tuple("abcdefx"),
            tuple("xxxxxxx"), tuple("aaaaaaa"), tuple("abcdefgg"), ("abcdefg",), ("a", "b", "c", "d", "e", "f", "gg"),
        ):
            self.refused(some, "names")
        self.refused(("a",), "names", form=())

    def test_ahead(self):
        for order in ("bacdefg", "gfedcba", "abcedfg", "abdefgc", "abdecfg", "abefgcd"):
            self.refused(tuple(order), "ahead")

    def test_looks_that_turn_nothing_count(self):
        # d looks at b by a weight of 0 alone, e at c by a place that c hasn't.
        self.refused(tuple("acdbefg"), "ahead")
        self.refused(tuple("abdecfg"), "ahead")

    def test_names_go_first(self):
        self.refused(tuple("bacdefx"), "names")
        self.refused(tuple("bbacdef"), "names")
        self.refused(tuple("ba"), "names")

    def test_in_another_order_the_same_shows(self):
        dice = random.Random(31)
        turned = 0
        for turn in range(60):
            form = lively_form(dice, 4)
            kinds = [question[:2] for question in form]
            sentence, term = lively_sentence(dice, kinds, 2), random_term(dice, kinds, 2)
            for order in itertools.permutations(names(form)):
                try:
                    other = reordered(form, order)
                except NoOrder as caught:
                    self.assertEqual(caught.word, "ahead")
                    self.assertFalse(is_form(tuple(form[names(form).index(name)] for name in order)))
                    continue
                turned += other != form
                self.assertEqual(how_many(other, sentence), how_many(form, sentence))
                for store in dice.sample(whole_stores(form), min(3, len(whole_stores(form)))):
                    some = tuple(pair for pair in store if dice.random() < 0.8)
                    one, another = view_of(form, some), view_of(other, some)
                    self.assertEqual(set(one), set(another))
                    self.assertEqual(holds(one, sentence), holds(another, sentence))
                    self.assertEqual(value(one, term), value(another, term))
        self.assertGreater(turned, 100)


if __name__ == "__main__":
    unittest.main()
