"""Points [5], [32] and [33]: boxes and their parts."""

import unittest

from askfolds.boxes import has, is_box, parts, whole
from askfolds.kinds import answers
from tests.helpers import BIG, FALSE, ODD_THINGS, TRUE, boxes_of, spoiled, whole_stores

FORM = (
    ("n", ("number", -3, 4), TRUE),
    ("b", ("one", 3), FALSE),
    ("s", ("some", 4), ("is", "b", 0)),
)
SMALL_FORM = (("n", ("number", -1, 1), TRUE), ("b", ("one", 3), TRUE), ("s", ("some", 2), TRUE))
BOX = ((-3, 4), (0, 1, 2), ((), ()))


def with_spread(place, spread):
    return BOX[:place] + (spread,) + BOX[place + 1:]


class IsBox(unittest.TestCase):
    def test_right_ranges(self):
        right = (
            ((-3, 4), (-3, -3), (4, 4), (0, 1)),
            ((0,), (2,), (0, 2), (0, 1, 2)),
            (((), ()), ((0,), ()), ((), (0, 3)), ((1, 2), (0, 3)), ((0, 1, 2, 3), ())),
        )
        for place, spreads in enumerate(right):
            for spread in spreads:
                self.assertIs(is_box(FORM, with_spread(place, spread)), True, spread)

    def test_wrong_ranges(self):
        wrong = (
            ((-4, 4), (-3, 5), (1, 0), (4, -3), (0,), (), (0, 1, 2), [0, 1], (0, True), (False, 1), (0, None), ("0", 1),
             ((0,), 1), ([0], [1]), (5, 5), (-BIG, BIG), 0, None, True, "01"),
            ((), (3,), (-1,), (0, 0), (1, 0), (0, 3), (True,), (0, True), [0], ("0",), ((0,),), ([0],), 0, None, True,
             (False,), (BIG,)),
            ((), ((),), ((), (), ()), ((0,), (0,)), ((0, 1), (1, 2)), ((4,), ()), ((), (4,)), ((-1,), ()), ((1, 0), ()),
             ((), (1, 0)), ((0, 0), ()), ([], ()), ((), []), [(), ()], ((True,), ()), ((), (True,)), (0, ()), ((), 0),
             ((), None), (None, ()), 0, None, True, ("", "")),
        )
        for place, spreads in enumerate(wrong):
            for spread in spreads:
                self.assertIs(is_box(FORM, with_spread(place, spread)), False, spread)

    def test_too_few_and_too_many(self):
        self.assertIs(is_box(FORM, BOX[:2]), False)
        self.assertIs(is_box(FORM, BOX + ((0, 1),)), False)
        self.assertIs(is_box((), ()), True)
        self.assertIs(is_box((), ((),)), False)
        self.assertIs(is_box((), []), False)

    def test_odd_things(self):
        for thing in ODD_THINGS:
            self.assertIs(is_box(FORM, thing), False)
        for thing in spoiled(((-3, 1), (0, 1), ((0,), (1, 2)))):
            self.assertIs(is_box(FORM, thing), False, thing)

    def test_all_boxes_of_a_small_form(self):
        for box in boxes_of(SMALL_FORM):
            self.assertIs(is_box(SMALL_FORM, box), True)


class Whole(unittest.TestCase):
    def test_nothing_known(self):
        self.assertEqual(whole(FORM, ()), BOX)
        self.assertEqual(whole((), ()), ())

    def test_known(self):
        self.assertEqual(whole(FORM, (("n", 0),)), with_spread(0, (0, 0)))
        self.assertEqual(whole(FORM, (("b", 2),)), with_spread(1, (2,)))
        self.assertEqual(whole(FORM, (("s", (1, 3)),)), with_spread(2, ((1, 3), (0, 2))))
        self.assertEqual(whole(FORM, (("s", ()),)), with_spread(2, ((), (0, 1, 2, 3))))
        self.assertEqual(whole(FORM, (("n", -3), ("b", 0), ("s", (0, 1, 2, 3)))), ((-3, -3), (0,), ((0, 1, 2, 3), ())))

    def test_only_a_store_lies_in_its_own_box(self):
        stores = whole_stores(SMALL_FORM)
        for store in stores:
            box = whole(SMALL_FORM, store)
            self.assertEqual([other for other in stores if has(SMALL_FORM, box, other)], [store])


class Has(unittest.TestCase):
    def test_each_sort(self):
        store = (("n", 1), ("b", 2), ("s", (0, 2)))
        self.assertIs(has(FORM, BOX, store), True)
        for place, spread, told in (
            (0, (1, 1), True), (0, (1, 4), True), (0, (-3, 1), True), (0, (2, 4), False), (0, (-3, 0), False),
            (1, (2,), True), (1, (0, 2), True), (1, (0, 1), False),
            (2, ((0,), ()), True), (2, ((0, 2), (1, 3)), True), (2, ((), (1,)), True), (2, ((1,), ()), False),
            (2, ((0, 1), ()), False), (2, ((), (0,)), False), (2, ((0,), (2,)), False),
        ):
            self.assertIs(has(FORM, with_spread(place, spread), store), told)

    def test_the_empty_form(self):
        self.assertIs(has((), (), ()), True)

    def test_names_of_the_arguments(self):
        self.assertIs(is_box(form=(), thing=()), True)
        self.assertEqual(whole(form=(), known=()), ())
        self.assertIs(has(form=(), box=(), store=()), True)
        self.assertEqual(parts(form=(), box=(), row=("each", "b")), [])


class Parts(unittest.TestCase):
    def test_cut(self):
        told = [with_spread(0, (-3, 0)), with_spread(0, (1, 4))]
        self.assertEqual(parts(FORM, BOX, ("cut", "n", 1)), told)
        self.assertEqual(parts(FORM, BOX, ("cut", "n", -2)), [with_spread(0, (-3, -3)), with_spread(0, (-2, 4))])
        self.assertEqual(parts(FORM, BOX, ("cut", "n", 4)), [with_spread(0, (-3, 3)), with_spread(0, (4, 4))])

    def test_cut_that_does_not_fit(self):
        for number in (-3, -4, 5, BIG, -BIG):
            self.assertEqual(parts(FORM, BOX, ("cut", "n", number)), [])
        self.assertEqual(parts(FORM, with_spread(0, (1, 1)), ("cut", "n", 1)), [])
        for name in ("b", "s", "x"):
            self.assertEqual(parts(FORM, BOX, ("cut", name, 1)), [])

    def test_each(self):
        self.assertEqual(parts(FORM, BOX, ("each", "b")), [with_spread(1, (answer,)) for answer in (0, 1, 2)])
        self.assertEqual(parts(FORM, with_spread(1, (0, 2)), ("each", "b")), [with_spread(1, (0,)), with_spread(1, (2,))])

    def test_each_that_does_not_fit(self):
        self.assertEqual(parts(FORM, with_spread(1, (1,)), ("each", "b")), [])
        for name in ("n", "s", "x"):
            self.assertEqual(parts(FORM, BOX, ("each", name)), [])

    def test_with(self):
        box = with_spread(2, ((1,), (2,)))
        self.assertEqual(parts(FORM, box, ("with", "s", 0)), [with_spread(2, ((1,), (0, 2))), with_spread(2, ((0, 1), (2,)))])
        self.assertEqual(parts(FORM, box, ("with", "s", 3)), [with_spread(2, ((1,), (2, 3))), with_spread(2, ((1, 3), (2,)))])

    def test_with_that_does_not_fit(self):
        box = with_spread(2, ((1,), (2,)))
        for number in (1, 2, 4, -1, BIG, -BIG):
            self.assertEqual(parts(FORM, box, ("with", "s", number)), [])
        for name in ("n", "b", "x"):
            self.assertEqual(parts(FORM, BOX, ("with", name, 0)), [])

    def test_each_store_lies_in_just_one_part(self):
        stores = whole_stores(SMALL_FORM)
        rows = [("cut", "n", 0), ("cut", "n", 1), ("each", "b"), ("with", "s", 0), ("with", "s", 1)]
        for box in boxes_of(SMALL_FORM):
            for row in rows:
                told = parts(SMALL_FORM, box, row)
                if told:
                    for store in stores:
                        inside = [has(SMALL_FORM, part, store) for part in told].count(True)
                        self.assertEqual(inside, 1 if has(SMALL_FORM, box, store) else 0)
                for part in told:
                    self.assertIs(is_box(SMALL_FORM, part), True)

    def test_a_told_list_is_the_askers_own(self):
        told = parts(FORM, BOX, ("each", "b"))
        self.assertIsInstance(told, list)
        told.clear()
        self.assertEqual(len(parts(FORM, BOX, ("each", "b"))), 3)
        none = parts(FORM, BOX, ("each", "x"))
        none.append(1)
        self.assertEqual(parts(FORM, BOX, ("each", "x")), [])

    def test_ranges_settle_down_to_one_answer(self):
        form = (("s", ("some", 4), TRUE),)
        for answer in answers(("some", 4)):
            waiting = [whole(form, ())]
            for place in range(4):
                waiting = [part for box in waiting for part in parts(form, box, ("with", "s", place))]
            self.assertEqual([box for box in waiting if has(form, box, (("s", answer),))], [whole(form, (("s", answer),))])


if __name__ == "__main__":
    unittest.main()
