"""Points [51] to [53]: names that never or always show, and forms without a name."""

import random
import unittest

from askfolds.casechecker import lets_cases
from askfolds.counting import how_many
from askfolds.errors import NoName
from askfolds.forms import is_form, kinds_of, names
from askfolds.kinds import size
from askfolds.pruning import always_shown, never_shown, pruned, without
from askfolds.showing import view
from tests.helpers import (
    FALSE, ODD_THINGS, TRUE, WIDE, Bars, barred_kinds, lively_form, lively_sentence, random_wide_form, some_stores, view_of, whole_stores
)

A = ("a", ("one", 3), TRUE)


class Shown(unittest.TestCase):
    def told(self, form):
        """Ask for both, look at the CASES that are told, and tell the names."""
        never, always = never_shown(form), always_shown(form)
        for name, cases in never:
            self.assertIs(lets_cases(form, (), (("given", name), (0, ()), 1), cases), True)
        for name, cases in always:
            self.assertIs(lets_cases(form, (), (("not", ("given", name)), (0, ()), 1), cases), True)
        return tuple(name for name, cases in never), tuple(name for name, cases in always)

    def test_none(self):
        self.assertEqual((never_shown(()), always_shown(())), ((), ()))
        self.assertEqual(self.told((A, ("b", ("one", 2), ("is", "a", 1)))), ((), ("a",)))
        self.assertEqual((never_shown(form=()), always_shown(form=())), ((), ()))

    def test_barred(self):
        form = (A, ("b", ("one", 2), FALSE), ("c", ("one", 2), ("given", "b")), ("d", ("one", 2), ("any", (("is", "c", 1), ("given", "b")))), ("e", ("one", 2), ("not", ("given", "d"))))
        self.assertEqual(self.told(form), (("b", "c", "d"), ("a", "e")))
        both = ("all", (("is", "a", 0), ("is", "a", 1)))
        self.assertEqual(self.told((A, ("b", ("one", 2), both), ("c", ("some", 1), ("not", both)))), (("b",), ("a", "c")))
        self.assertEqual(self.told((A, ("b", ("one", 2), ("is", "a", 3)))), (("b",), ("a",)))

    def test_always(self):
        form = (
            A, ("b", ("one", 2), ("any", (("is", "a", 0), ("is", "a", 1), ("is", "a", 2)))), ("c", ("one", 2), ("not", ("is", "a", 2))),
            ("d", ("one", 2), ("any", (("given", "c"), ("is", "a", 2)))), ("e", ("one", 1), ("all", (("given", "d"), ("given", "c")))),
        )
        self.assertEqual(self.told(form), ((), ("a", "b", "d")))

    def test_wide(self):
        bar = ("least", (0, (("times", "n", 3),)), 1000)
        form = (
            ("n", WIDE, TRUE), ("b", ("one", 2), bar), ("c", ("one", 2), ("all", (bar, ("not", ("least", (0, (("times", "n", 1),)), 334))))),
            ("d", ("one", 2), ("all", (bar, ("not", ("least", (0, (("times", "n", 1),)), 335))))), ("e", ("one", 2), ("least", (0, (("times", "n", -1),)), -1000)),
            ("f", ("one", 2), ("least", (0, (("times", "n", -1),)), 1001)),
        )
        self.assertEqual(self.told(form), (("c", "f"), ("n", "e")))

    def test_by_all_fillings(self):
        dice = random.Random(51)
        many = [0, 0]
        for turn in range(300):
            form = lively_form(dice, dice.randint(1, 4))
            views = [dict(view_of(form, store)) for store in whole_stores(form)]
            never = tuple(name for name in names(form) if not any(name in one for one in views))
            always = tuple(name for name in names(form) if all(name in one for one in views))
            self.assertEqual(self.told(form), (never, always))
            many[0] += len(never)
            many[1] += len(always)
        self.assertTrue(min(many) > 100, many)


class Without(unittest.TestCase):
    def test_left_out(self):
        wish = ("all", (("given", "a"), ("given", "b"), ("is", "a", 1), ("not", ("is", "a", 0))))
        form = (A, ("b", ("one", 2), TRUE), ("c", ("one", 2), wish))
        self.assertEqual(without(form, "a"), (form[1], ("c", ("one", 2), ("all", (FALSE, ("given", "b"), FALSE, ("not", FALSE))))))
        self.assertEqual(without(form, "b"), (A, ("c", ("one", 2), ("all", (("given", "a"), FALSE, ("is", "a", 1), ("not", ("is", "a", 0)))))))
        self.assertEqual(without(form, "c"), form[:2])
        self.assertEqual(without(form=(A,), thing="a"), ())

    def test_each_sort_however_deep(self):
        form = (
            ("n", ("number", 0, 9), TRUE), ("b", ("one", 2), TRUE), ("s", ("some", 3), TRUE),
            ("z", ("one", 1), ("any", (("not", ("least", (4, (
                ("times", "n", 2), ("of", "b", (1, 2)), ("where", ("all", (("has", "s", 1), ("least", (1, (("times", "n", 5), ("of", "s", (7,)), ("of", "s", ()))), 3))), 6), ("times", "n", -1),
            )), 9)), ("has", "s", 0), ("given", "n"), ("any", ()), ("is", "b", 0)))),
        )
        self.assertEqual(without(form, "n")[2][2], (
            "any", (("not", ("least", (4, (("of", "b", (1, 2)), ("where", ("all", (("has", "s", 1), ("least", (1, (("of", "s", (7,)), ("of", "s", ()))), 3))), 6))), 9)), ("has", "s", 0), FALSE, FALSE, ("is", "b", 0)),
        ))
        self.assertEqual(without(form, "s")[2][2], (
            "any", (("not", ("least", (4, (
                ("times", "n", 2), ("of", "b", (1, 2)), ("where", ("all", (FALSE, ("least", (1, (("times", "n", 5),)), 3))), 6), ("times", "n", -1),
            )), 9)), FALSE, ("given", "n"), FALSE, ("is", "b", 0)),
        ))
        self.assertEqual(without(form, "b")[2][2], (
            "any", (("not", ("least", (4, (
                ("times", "n", 2), ("where", ("all", (("has", "s", 1), ("least", (1, (("times", "n", 5), ("of", "s", (7,)), ("of", "s", ()))), 3))), 6), ("times", "n", -1),
            )), 9)), ("has", "s", 0), ("given", "n"), FALSE, FALSE),
        ))

    def test_names_that_begin_alike(self):
        form = (A, ("aa", ("one", 2), TRUE), ("a1", ("number", 0, 2), TRUE), ("z", ("one", 1), ("all", (("is", "aa", 1), ("given", "a"), ("least", (0, (("times", "a1", 1), ("of", "a", (1,)))), 2)))))
        self.assertEqual(without(form, "a"), form[1:3] + (("z", ("one", 1), ("all", (("is", "aa", 1), FALSE, ("least", (0, (("times", "a1", 1),)), 2)))),))
        self.assertEqual(without(form, "aa"), (A, form[2], ("z", ("one", 1), ("all", (FALSE,) + form[3][2][1][1:]))))

    def test_a_name_like_a_word(self):
        form = (("given", ("one", 2), TRUE), ("of", ("one", 2), ("given", "given")), ("all", ("one", 2), ("least", (0, (("of", "of", (1,)), ("of", "given", (2,)))), 1)))
        self.assertEqual(without(form, "of"), (form[0], ("all", ("one", 2), ("least", (0, (("of", "given", (2,)),)), 1))))
        self.assertEqual(without(form, "given"), (("of", ("one", 2), FALSE), ("all", ("one", 2), ("least", (0, (("of", "of", (1,)),)), 1))))

    def test_of_any_form(self):
        form = tuple((f"q{at}", ("number", -10 ** 150, 10 ** 150), ("given", f"q{at - 1}") if at else TRUE) for at in range(60))
        self.assertEqual(without(form, "q30"), form[:30] + (("q31", form[0][1], FALSE),) + form[32:])

    def test_no_such_name(self):
        form = (A, ("b", ("one", 2), ("given", "a")))
        for thing in ODD_THINGS + ("c", "A", "aa", ("b",), ["b"], ("a", 0), "b ", A):
            if thing != "a":
                with self.assertRaises(NoName) as caught:
                    without(form, thing)
                self.assertIs(caught.exception.name, thing)
                with self.assertRaises(NoName):
                    without((), thing)

    def test_what_is_told_is_a_form(self):
        dice = random.Random(52)
        for turn in range(200):
            form = lively_form(dice, dice.randint(1, 4))
            name = dice.choice(names(form))
            newer = without(form, name)
            self.assertTrue(is_form(newer))
            self.assertEqual(kinds_of(newer), tuple(pair for pair in kinds_of(form) if pair[0] != name))
            # Where the name never shows all others show as they do without it.
            barred = tuple((one, kind, FALSE if one == name else wish) for one, kind, wish in form)
            for store in whole_stores(form)[:30]:
                self.assertEqual(view(newer, tuple(pair for pair in store if pair[0] != name)), view(barred, store))


class Pruned(unittest.TestCase):
    def test_told(self):
        form = (A, ("b", ("one", 2), FALSE), ("c", ("one", 2), ("given", "b")), ("d", ("one", 2), ("any", (("is", "c", 1), ("is", "a", 0), ("given", "b")))))
        self.assertEqual(pruned(form), (A, ("d", ("one", 2), ("any", (FALSE, ("is", "a", 0), FALSE)))))
        self.assertEqual(pruned(()), ())
        self.assertEqual(pruned(form=(A,)), (A,))
        self.assertEqual(pruned((("b", ("one", 2), FALSE), ("c", ("one", 2), ("given", "b")))), ())

    def check(self, form, stores):
        newer = pruned(form)
        self.assertTrue(is_form(newer))
        left = [name for name, cases in never_shown(form)]
        self.assertEqual(names(newer), tuple(name for name in names(form) if name not in left))
        self.assertEqual(pruned(newer), newer)
        self.assertEqual(never_shown(newer), ())
        for store in stores:
            self.assertEqual(view(newer, tuple(pair for pair in store if pair[0] not in left)), view(form, store))
        return len(left)

    def test_the_same_fillings(self):
        dice = random.Random(53)
        many = 0
        for turn in range(300):
            form = lively_form(dice, dice.randint(1, 4))
            many += self.check(form, whole_stores(form))
            newer = pruned(form)
            self.assertEqual(set(view_of(newer, store) for store in whole_stores(newer)), set(view_of(form, store) for store in whole_stores(form)))
            sentence = lively_sentence(dice, kinds_of(newer), 2)
            self.assertEqual(how_many(newer, sentence), how_many(form, sentence))
        self.assertGreater(many, 100)

    def test_wide(self):
        dice = random.Random(54)
        many = 0
        for turn in range(150):
            kinds = barred_kinds(dice)
            bars = Bars(dice, [name for name, kind in kinds if size(kind) > 8])
            form = random_wide_form(dice, bars, kinds)
            many += self.check(form, some_stores(dice, form, 40))
        self.assertGreater(many, 5)


if __name__ == "__main__":
    unittest.main()
