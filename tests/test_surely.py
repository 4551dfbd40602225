"""Points [5] and [34] to [37]: what is surely so in a box."""

import random
import unittest

from askfolds.boxes import has, whole
from askfolds.surely import low_high, states, surely
from askfolds.views import holds, value
from tests.helpers import BIG, FALSE, MAYBE, STATES_FORM, TRUE, boxes_of, random_form, random_sentence, random_term
from tests.helpers import states_box, view_of, whole_stores


class Words(unittest.TestCase):
    def check(self, sentence, told, **spreads):
        self.assertEqual(surely(STATES_FORM, states_box(**spreads), sentence), told, (sentence, spreads))

    def test_states(self):
        told = ("yes", "yes", "maybe", "no") + ("yes", "maybe", "no") * 2
        self.assertEqual(states(STATES_FORM, states_box()), told)
        told = ("yes", "yes", "yes", "no") + ("yes", "yes", "no") * 2
        self.assertEqual(states(STATES_FORM, states_box(q=(0,))), told)
        told = ("yes", "yes", "no", "no") + ("yes", "no", "no") * 2
        self.assertEqual(states(STATES_FORM, states_box(q=(1,))), told)
        self.assertEqual(states((), ()), ())

    def test_given(self):
        for name, told in (("by", "yes"), ("bm", "maybe"), ("bn", "no")):
            self.check(("given", name), told)

    def test_is(self):
        for name, spread, answer, told in (
            ("by", (1,), 1, "yes"), ("by", (1, 2), 1, "maybe"), ("by", (1, 2), 0, "no"), ("by", (0, 1), BIG, "no"),
            ("bm", (1,), 1, "maybe"), ("bm", (1, 2), 1, "maybe"), ("bm", (1, 2), 0, "no"),
            ("bn", (1,), 1, "no"), ("bn", (1, 2), 1, "no"), ("bn", (1, 2), 0, "no"),
        ):
            self.check(("is", name, answer), told, **{name: spread})

    def test_has(self):
        spread = ((0,), (1,))
        for name, place, told in (
            ("sy", 0, "yes"), ("sy", 1, "no"), ("sy", 2, "maybe"), ("sy", 3, "maybe"), ("sy", 4, "no"), ("sy", BIG, "no"),
            ("sm", 0, "maybe"), ("sm", 1, "no"), ("sm", 2, "maybe"), ("sm", 4, "no"),
            ("sn", 0, "no"), ("sn", 1, "no"), ("sn", 2, "no"), ("sn", 4, "no"),
        ):
            self.check(("has", name, place), told, **{name: spread})

    def test_not(self):
        for sentence, told in ((TRUE, "no"), (FALSE, "yes"), (MAYBE, "maybe")):
            self.check(("not", sentence), told)

    def test_all_and_any(self):
        self.check(TRUE, "yes")
        self.check(FALSE, "no")
        for sentences, every, one in (
            ((TRUE, TRUE), "yes", "yes"), ((TRUE, FALSE), "no", "yes"), ((FALSE, FALSE), "no", "no"),
            ((TRUE, MAYBE), "maybe", "yes"), ((MAYBE, FALSE), "no", "maybe"), ((MAYBE,), "maybe", "maybe"),
            ((MAYBE, FALSE, TRUE), "no", "yes"), ((MAYBE, MAYBE, TRUE), "maybe", "yes"),
        ):
            self.check(("all", sentences), every)
            self.check(("any", sentences), one)
            self.check(("all", sentences[::-1]), every)
            self.check(("any", sentences[::-1]), one)

    def test_no_rule_but_those_told(self):
        # One that holds always, but that no rule tells so.
        self.check(("any", (MAYBE, ("not", MAYBE))), "maybe")
        self.check(("all", (MAYBE, ("not", MAYBE))), "maybe")
        self.check(("least", (0, (("times", "ny", 1), ("times", "ny", -1))), 0), "maybe")

    def test_least(self):
        term = (0, (("times", "ny", 2),))
        for number, told in ((-10, "yes"), (-9, "maybe"), (14, "maybe"), (15, "no"), (-BIG, "yes"), (BIG, "no")):
            self.check(("least", term, number), told)


class Bounds(unittest.TestCase):
    def check(self, part, told, **spreads):
        low, high = told
        self.assertEqual(low_high(STATES_FORM, states_box(**spreads), (10, (part,))), (10 + low, 10 + high), (part, spreads))

    def test_times(self):
        for name, weight, spread, told in (
            ("ny", 2, (-1, 3), (-2, 6)), ("ny", -2, (-1, 3), (-6, 2)), ("ny", 2, (1, 3), (2, 6)), ("ny", 0, (1, 3), (0, 0)),
            ("ny", -2, (1, 3), (-6, -2)), ("ny", 2, (3, 3), (6, 6)), ("ny", 2, (-3, -1), (-6, -2)),
            ("nm", 2, (1, 3), (0, 6)), ("nm", -2, (1, 3), (-6, 0)), ("nm", 2, (-3, -1), (-6, 0)), ("nm", 2, (-1, 3), (-2, 6)),
            ("nm", 2, (3, 3), (0, 6)), ("nm", 2, (0, 0), (0, 0)),
            ("nn", 2, (1, 3), (0, 0)), ("nn", -2, (1, 3), (0, 0)),
        ):
            self.check(("times", name, weight), told, **{name: spread})

    def test_of_one(self):
        for name, weights, spread, told in (
            ("by", (5, -2, 7), (0, 1), (-2, 5)), ("by", (5, -2, 7), (0, 2), (5, 7)), ("by", (5, -2, 7), (2, 3), (0, 7)),
            ("by", (5, -2, 7), (3,), (0, 0)), ("by", (), (0, 1), (0, 0)), ("by", (-5, -2), (0, 1), (-5, -2)),
            ("by", (-5, -2), (1, 2), (-2, 0)), ("by", (5,), (0,), (5, 5)),
            ("bm", (5, -2, 7), (0, 2), (0, 7)), ("bm", (-5, -2), (0, 1), (-5, 0)), ("bm", (5, -2), (0, 1), (-2, 5)),
            ("bm", (5,), (0,), (0, 5)), ("bn", (5, -2, 7), (0, 2), (0, 0)),
        ):
            self.check(("of", name, weights), told, **{name: spread})

    def test_of_some(self):
        for name, weights, spread, told in (
            ("sy", (5, -2, 7, -1), ((), ()), (-3, 12)), ("sy", (5, -2, 7, -1), ((0,), ()), (2, 12)),
            ("sy", (5, -2, 7, -1), ((1,), ()), (-3, 10)), ("sy", (5, -2, 7, -1), ((0,), (1, 3)), (5, 12)),
            ("sy", (5, -2, 7, -1), ((0, 1), (2, 3)), (3, 3)), ("sy", (5, -2), ((2,), ()), (-2, 5)),
            ("sy", (5, -2), ((0, 2), ()), (3, 5)), ("sy", (), ((0,), (1,)), (0, 0)),
            ("sy", (1, 1, 1, 1, 100), ((), ()), (0, 4)),
            ("sm", (5, -2, 7, -1), ((0,), (1, 3)), (0, 12)), ("sm", (-5, -2), ((0,), (1,)), (-5, 0)),
            ("sm", (5, -2, 7, -1), ((), ()), (-3, 12)), ("sn", (5, -2, 7, -1), ((0,), ()), (0, 0)),
        ):
            self.check(("of", name, weights), told, **{name: spread})

    def test_where(self):
        for sentence, weight, told in (
            (TRUE, 4, (4, 4)), (TRUE, -4, (-4, -4)), (FALSE, 4, (0, 0)), (FALSE, -4, (0, 0)),
            (MAYBE, 4, (0, 4)), (MAYBE, -4, (-4, 0)), (MAYBE, 0, (0, 0)),
        ):
            self.check(("where", sentence, weight), told)

    def test_several_parts_are_added(self):
        term = (-1, (("times", "ny", 1), ("times", "ny", -1), ("where", MAYBE, 3)))
        self.assertEqual(low_high(STATES_FORM, states_box(ny=(1, 2)), term), (-2, 3))
        self.assertEqual(low_high(STATES_FORM, states_box(), (BIG, ())), (BIG, BIG))
        self.assertEqual(low_high((), (), (3, (("where", TRUE, 2),))), (5, 5))

    def test_names_of_the_arguments(self):
        self.assertEqual(states(form=(), box=()), ())
        self.assertEqual(surely(form=(), box=(), sentence=TRUE), "yes")
        self.assertEqual(low_high(form=(), box=(), term=(1, ())), (1, 1))


def lets_no_more(form, stores, one, other):
    """Tell whether all that lies in one BOX lies in the other."""
    return all(has(form, other, store) for store in stores if has(form, one, store))


class Promises(unittest.TestCase):
    def forms(self):
        dice = random.Random(5)
        for turn in range(25):
            form = random_form(dice, dice.randint(1, 3))
            kinds = [question[:2] for question in form]
            sentences = [random_sentence(dice, kinds, 3) for some in range(4)]
            terms = [random_term(dice, kinds, 3) for some in range(4)]
            boxes = boxes_of(form)
            yield form, dice.sample(boxes, min(len(boxes), 25)), sentences, terms

    def test_yes_and_no_are_so_and_terms_lie_between(self):
        for form, boxes, sentences, terms in self.forms():
            views = [(store, view_of(form, store)) for store in whole_stores(form)]
            for box in boxes:
                inside = [view for store, view in views if has(form, box, store)]
                self.assertTrue(inside)
                words = [(("given", question[0]), state) for question, state in zip(form, states(form, box))]
                words += [(sentence, surely(form, box, sentence)) for sentence in sentences]
                for sentence, word in words:
                    for view in inside:
                        self.assertIn(word, ("maybe", "yes" if holds(view, sentence) else "no"))
                for term in terms:
                    low, high = low_high(form, box, term)
                    for view in inside:
                        self.assertTrue(low <= value(view, term) <= high)

    def test_narrower_boxes_are_sharper(self):
        for form, boxes, sentences, terms in self.forms():
            stores = whole_stores(form)
            for one in boxes:
                for other in boxes:
                    if not lets_no_more(form, stores, one, other):
                        continue
                    for state, wider in zip(states(form, one), states(form, other)):
                        self.assertIn(wider, ("maybe", state))
                    for sentence in sentences:
                        self.assertIn(surely(form, other, sentence), ("maybe", surely(form, one, sentence)))
                    for term in terms:
                        low, high = low_high(form, one, term)
                        least, most = low_high(form, other, term)
                        self.assertTrue(least <= low <= high <= most)

    def test_the_box_of_a_whole_store_leaves_no_maybe(self):
        for form, boxes, sentences, terms in self.forms():
            for store in whole_stores(form):
                box = whole(form, store)
                view = view_of(form, store)
                given = dict(view)
                self.assertEqual(states(form, box), tuple("yes" if name in given else "no" for name, kind, wish in form))
                for sentence in sentences:
                    self.assertEqual(surely(form, box, sentence), "yes" if holds(view, sentence) else "no")
                for term in terms:
                    self.assertEqual(low_high(form, box, term), (value(view, term),) * 2)


if __name__ == "__main__":
    unittest.main()
