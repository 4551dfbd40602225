"""Point [59]: settled terms."""

import random
import unittest

from askfolds.boxes import has, whole
from askfolds.settling import settled
from askfolds.surely import low_high
from askfolds.views import value
from tests.helpers import BIG, FALSE, MAYBE, STATES_FORM, TRUE, boxes_of, random_form, random_term, states_box, view_of
from tests.helpers import whole_stores


class Settled(unittest.TestCase):
    def check(self, parts, told, **spreads):
        if told is not None:
            told = (10 + told[0], told[1])
        self.assertEqual(settled(STATES_FORM, states_box(**spreads), (10, parts)), told, (parts, spreads))

    def test_no_parts(self):
        self.check((), (0, ()))
        self.assertEqual(settled((), (), (BIG, ())), (BIG, ()))

    def test_where(self):
        self.check((("where", TRUE, -3),), (-3, ()))
        self.check((("where", FALSE, -3),), (0, ()))
        self.check((("where", MAYBE, -3),), None)
        self.check((("where", MAYBE, 3),), None)
        self.check((("where", MAYBE, 0),), (0, ()))
        self.check((("where", MAYBE, 3),), (3, ()), q=(0,))

    def test_times(self):
        self.check((("times", "ny", 3),), (-6, (("ny", (3,)),)), ny=(-2, 4))
        self.check((("times", "ny", 3),), (12, ()), ny=(4, 4))
        self.check((("times", "ny", 0),), (0, ()))
        self.check((("times", "nn", 3),), (0, ()))
        self.check((("times", "nm", 3),), None)
        self.check((("times", "nm", 3),), None, nm=(0, 1))
        self.check((("times", "nm", 3),), None, nm=(-1, 0))
        self.check((("times", "nm", 3),), (0, ()), nm=(0, 0))
        self.check((("times", "nm", 0),), (0, ()))

    def test_of_one(self):
        self.check((("of", "by", (5, 2, 7)),), (5, (("by", (0, -3, 2, -5)),)))
        self.check((("of", "by", (5, 2, 7)),), (2, (("by", (0, 5)),)), by=(1, 2))
        self.check((("of", "by", (5, 2, 7)),), (7, ()), by=(2,))
        self.check((("of", "by", (5, 2, 7)),), (0, ()), by=(3,))
        self.check((("of", "by", (5, 5)),), (5, ()), by=(0, 1))
        self.check((("of", "by", ()),), (0, ()))
        self.check((("of", "bn", (5, 2)),), (0, ()))
        self.check((("of", "bm", (5, 2)),), None)
        self.check((("of", "bm", (5, 5)),), None, bm=(0, 1))
        self.check((("of", "bm", (5, 2)),), (0, ()), bm=(2, 3))
        self.check((("of", "bm", (0, 0, 0, 0)),), (0, ()))

    def test_of_some(self):
        self.check((("of", "sy", (5, 2, 7, 1)),), (0, (("sy", (5, 2, 7, 1)),)))
        self.check((("of", "sy", (5, 2)),), (5, (("sy", (2, 0)),)), sy=((0,), (2,)))
        self.check((("of", "sy", (5, 2)),), (7, ()), sy=((0, 1), ()))
        self.check((("of", "sy", (5, 2)),), (7, ()), sy=((0, 1, 2, 3), ()))
        self.check((("of", "sy", ()),), (0, ()))
        self.check((("of", "sn", (5, 2)),), (0, ()))
        self.check((("of", "sm", (5, 2)),), None)
        self.check((("of", "sm", (5, -5)),), None, sm=((), (2, 3)))
        self.check((("of", "sm", (5, -5)),), (0, ()), sm=((0, 1), ()))
        self.check((("of", "sm", (5, -5, 1)),), None, sm=((0, 1), ()))
        self.check((("of", "sm", (5, -5, 1)),), (0, ()), sm=((), (0, 1, 2)))
        self.check((("of", "sm", (5, 0)),), None, sm=((0,), (2, 3)))

    def test_parts_of_one_name_are_added(self):
        self.check((("times", "ny", 3), ("times", "ny", -3)), (0, ()))
        self.check((("times", "ny", 3), ("times", "ny", 2)), (-25, (("ny", (5,)),)))
        self.check((("of", "by", (1, 2)), ("of", "by", (0, 0, 4))), (1, (("by", (0, 1, 3, -1)),)))
        self.check((("of", "sy", (1,)), ("of", "sy", (-1, 2))), (0, (("sy", (0, 2, 0, 0)),)))
        self.check((("of", "sy", (1, 2)), ("of", "sy", (-1, -2))), (0, ()))

    def test_names_rise(self):
        parts = (("times", "ny", 1), ("of", "sy", (1,)), ("of", "by", (1,)), ("of", "q", (0, 1)))
        told = (-4, (("by", (0, -1, -1, -1)), ("ny", (1,)), ("q", (0, 1)), ("sy", (1, 0, 0, 0))))
        self.check(parts, told)
        self.check(parts[::-1], told)

    def test_one_part_that_is_not_settled_is_enough(self):
        self.check((("times", "ny", 1), ("times", "nm", 1)), None)
        self.check((("where", MAYBE, 1), ("where", MAYBE, -1)), None)
        self.check((("times", "nm", 1), ("times", "nm", -1)), None)

    def test_names_of_the_arguments(self):
        self.assertEqual(settled(form=(), box=(), term=(1, ())), (1, ()))

    def test_in_the_box_of_a_whole_store_each_term_is_settled(self):
        dice = random.Random(7)
        for turn in range(100):
            form = random_form(dice, 3)
            term = random_term(dice, [question[:2] for question in form], 3)
            for store in whole_stores(form):
                self.assertEqual(settled(form, whole(form, store), term), (value(view_of(form, store), term), ()))

    def test_settled_terms_are_told_the_same_just_where_they_come_to_the_same(self):
        dice = random.Random(8)
        seen = {True: 0, False: 0}
        for turn in range(400):
            form = random_form(dice, 2)
            kinds = [question[:2] for question in form]
            one, other = random_term(dice, kinds, 2), random_term(dice, kinds, 2)
            if dice.random() < 0.5:
                other = (one[0], one[1][::-1] + (("where", ("all", ()), 0),))
            stores = whole_stores(form)
            for box in dice.sample(boxes_of(form), min(4, len(boxes_of(form)))):
                told, another = settled(form, box, one), settled(form, box, other)
                if told is None or another is None:
                    continue
                views = [view_of(form, store) for store in stores if has(form, box, store)]
                same = all(value(view, one) == value(view, other) for view in views)
                self.assertEqual(told == another, same)
                seen[same] += 1
                low, high = low_high(form, box, one)
                self.assertTrue(low <= value(views[0], one) <= high)
        self.assertTrue(seen[True] > 50 and seen[False] > 50)


if __name__ == "__main__":
    unittest.main()
