"""Points [57] and [58]: a store led from one form into another."""

import random
import unittest

from askfolds.changing import changed
from askfolds.errors import NoChange
from askfolds.forms import is_form, kinds_of, names
from askfolds.kinds import answers, is_answer
from askfolds.leading import led
from askfolds.orders import reordered
from askfolds.showing import aside, is_filling, is_store, sorted_store, view
from tests.helpers import (
    FALSE, TRUE, lively_form, lively_sentence, random_kind, random_pairs, view_of, whole_stores
)

ELDER = (
    ("n", ("number", 0, 9), TRUE), ("b", ("one", 3), ("given", "n")), ("s", ("some", 3), ("is", "b", 0)), ("x", ("one", 2), FALSE),
)
STORE = (("n", 7), ("b", 2), ("s", (0, 2)), ("x", 1))


class Led(unittest.TestCase):
    def test_into_itself(self):
        self.assertEqual(led(ELDER, ELDER, STORE), (STORE, ()))
        self.assertEqual(led(ELDER, ELDER, ()), ((), ()))
        self.assertEqual(led((), (), ()), ((), ()))

    def test_gone(self):
        self.assertEqual(led(ELDER, ELDER[:2], STORE), (STORE[:2], (("s", (0, 2), "gone"), ("x", 1, "gone"))))
        self.assertEqual(led(ELDER, (), STORE), ((), tuple(pair + ("gone",) for pair in STORE)))
        self.assertEqual(led((), ELDER, ()), ((), ()))

    def test_another_kind(self):
        for place, kind, kept in (
            (0, ("number", 0, 7), True), (0, ("number", 0, 6), False), (0, ("number", 7, 7), True), (0, ("number", 8, 9), False),
            (0, ("one", 8), True), (0, ("one", 7), False), (0, ("some", 4), False), (1, ("one", 2), False), (1, ("number", -5, 2), True),
            (1, ("one", 1), False), (2, ("some", 2), False), (2, ("some", 4), True), (2, ("one", 3), False), (3, ("one", 1), False),
        ):
            newer = tuple((name, kind if at == place else elder, TRUE) for at, (name, elder, wish) in enumerate(ELDER))
            name, answer = STORE[place]
            if kept:
                self.assertEqual(led(ELDER, newer, STORE), (STORE, ()), kind)
            else:
                self.assertEqual(led(ELDER, newer, STORE), (STORE[:place] + STORE[place + 1:], ((name, answer, "kind"),)), kind)

    def test_aside_is_led_like_all_else(self):
        self.assertEqual(aside(ELDER, STORE), STORE[2:])
        newer = (("x", ("one", 2), TRUE), ("s", ("some", 1), FALSE))
        self.assertEqual(led(ELDER, newer, STORE), (STORE[3:], (("n", 7, "gone"), ("b", 2, "gone"), ("s", (0, 2), "kind"))))

    def test_the_order_of_the_newer_one_and_of_the_elder_one(self):
        newer = (("s", ("some", 3), TRUE), ("y", ("one", 4), TRUE), ("n", ("number", 5, 7), TRUE))
        self.assertEqual(led(ELDER, newer, STORE), ((("s", (0, 2)), ("n", 7)), (("b", 2, "gone"), ("x", 1, "gone"))))
        newer = (("x", ("one", 1), TRUE), ("n", ("number", 8, 9), TRUE), ("b", ("one", 3), TRUE))
        self.assertEqual(led(ELDER, newer, STORE), ((("b", 2),), (("n", 7, "kind"), ("s", (0, 2), "gone"), ("x", 1, "kind"))))

    def test_not_whole(self):
        self.assertEqual(led(ELDER, (("b", ("one", 2), TRUE),), (("b", 1),)), ((("b", 1),), ()))
        self.assertEqual(led(ELDER, (("b", ("one", 2), TRUE),), STORE[1:2]), ((), (("b", 2, "kind"),)))

    def test_names_of_the_arguments(self):
        self.assertEqual(led(elder=ELDER, newer=(), store=STORE[:1]), ((), (("n", 7, "gone"),)))


def random_newer(dice, elder):
    """Make a FORM some of whose names are those of the elder one."""
    some = [question[0] for question in elder] + ["x", "y"]
    dice.shuffle(some)
    kinds = dict(kinds_of(elder))
    newer = ()
    for name in some[:dice.randint(0, len(some))]:
        kind = kinds[name] if name in kinds and dice.random() < 0.5 else random_kind(dice)
        newer += ((name, kind, lively_sentence(dice, kinds_of(newer), 2)),)
    return newer


class So(unittest.TestCase):
    def test_by_any_two_forms(self):
        dice = random.Random(57)
        for turn in range(400):
            elder = lively_form(dice, dice.randint(0, 4))
            newer = random_newer(dice, elder)
            store = random_pairs(dice, elder)
            kept, lost = led(elder, newer, store)
            kinds = dict(kinds_of(newer))
            self.assertTrue(is_store(newer, kept))
            self.assertEqual(sorted(kept + tuple(one[:2] for one in lost)), sorted(store))
            self.assertEqual([one[:2] for one in lost], [pair for pair in store if pair not in kept])
            for name, answer, word in lost:
                self.assertEqual(word, "kind" if name in kinds else "gone")
                self.assertFalse(name in kinds and is_answer(kinds[name], answer))
            self.assertEqual(led(elder, elder, store), (store, ()))

    def test_by_way_of_a_third_no_more_is_kept(self):
        dice = random.Random(58)
        fewer = 0
        for turn in range(300):
            elder = lively_form(dice, 4)
            third, newer = random_newer(dice, elder), random_newer(dice, elder)
            store = random_pairs(dice, elder)
            around = led(third, newer, led(elder, third, store)[0])[0]
            straight = led(elder, newer, store)[0]
            self.assertLessEqual(set(around), set(straight))
            fewer += around != straight
        self.assertGreater(fewer, 50)

    def test_wider_kinds_and_more_questions_show_the_same(self):
        dice = random.Random(59)
        for turn in range(200):
            elder = lively_form(dice, dice.randint(1, 4))
            newer = ()
            for name, kind, wish in elder:
                wider = (kind[0], kind[1] + dice.randint(0, 2)) if kind[0] != "number" else (kind[0], kind[1] - dice.randint(0, 1), kind[2] + 1)
                if dice.random() < 0.4:
                    newer += (("x" + name, ("one", 2), TRUE),)
                newer += ((name, wider, wish),)
            some = list(names(newer))
            dice.shuffle(some)
            newer = self.turned(newer, some)
            for store in whole_stores(elder)[:40] + [random_pairs(dice, elder) for turn in range(10)]:
                kept, lost = led(elder, newer, store)
                self.assertEqual(lost, ())
                self.assertEqual(view(newer, kept), sorted_store(newer, view(elder, store)))

    def turned(self, form, some):
        """Tell the FORM in another order, in which each wish's names stand ahead."""
        left, order = list(some), []
        wishes = {name: wish for name, kind, wish in form}
        while left:
            for name in left:
                chosen = tuple(question for one in order for question in form if question[0] == one)
                if is_form(chosen + ((name, ("one", 1), wishes[name]),)):
                    order.append(name)
                    left.remove(name)
                    break
        return reordered(form, tuple(order))

    def test_narrower_kinds_have_the_fillings_that_they_let(self):
        dice = random.Random(60)
        for turn in range(200):
            elder = lively_form(dice, dice.randint(1, 4))
            newer = tuple((name, self.narrower(dice, kind), wish) for name, kind, wish in elder)
            kinds = dict(kinds_of(newer))
            elders = set(view_of(elder, store) for store in whole_stores(elder))
            newers = set(view_of(newer, store) for store in whole_stores(newer))
            self.assertEqual(newers, set(one for one in elders if all(is_answer(kinds[name], answer) for name, answer in one)))
            for filling in elders:
                kept, lost = led(elder, newer, filling)
                self.assertEqual(is_filling(newer, kept) and not lost, filling in newers and kept == filling)

    def narrower(self, dice, kind):
        """Make a KIND of the same sort with none but ANSWERS of this one."""
        if kind[0] == "number":
            low = dice.randint(kind[1], kind[2])
            return kind[0], low, dice.randint(low, kind[2])
        return kind[0], dice.randint(1, kind[1])

    def test_changes_of_a_form(self):
        for change, kept, lost in (
            (("take", "x"), STORE[:3], (("x", 1, "gone"),)),
            (("kind", "n", ("number", 0, 3)), STORE[1:], (("n", 7, "kind"),)),
            (("move", "x", 0), STORE[3:] + STORE[:3], ()),
            (("wish", "b", FALSE), STORE, ()),
            (("put", 0, ("y", ("one", 2), TRUE)), STORE, ()),
        ):
            self.assertEqual(led(ELDER, changed(ELDER, change), STORE), (kept, lost))
        with self.assertRaises(NoChange):
            changed(ELDER, ("take", "b"))

    def test_answers_of_all_kinds_there_and_back(self):
        for kind in (("one", 3), ("number", -2, 2), ("some", 2)):
            form = (("a", kind, TRUE),)
            for answer in answers(kind):
                self.assertEqual(led(form, form, (("a", answer),)), ((("a", answer),), ()))


if __name__ == "__main__":
    unittest.main()
