"""Points [63] and [64]: what may be asked, and what is sure."""

import random
import unittest

from askfolds.asking import is_sure, may_ask
from askfolds.boxes import whole
from askfolds.forms import kinds_of, names, question_of
from askfolds.kinds import answers
from askfolds.showing import sorted_store, view
from askfolds.surely import states, surely
from askfolds.views import holds
from tests.helpers import FALSE, TRUE, lively_form, lively_sentence, random_pairs, whole_stores

FORM = (
    ("n", ("number", 0, 3), TRUE),
    ("b", ("one", 2), ("least", (0, (("times", "n", 1),)), 1)),
    ("s", ("some", 2), ("is", "b", 0)),
    ("x", ("one", 2), FALSE),
)


def sure_by_all(form, known, sentence):
    """Tell the word by all WHOLE STORES, as point [63] says it."""
    views = [view(form, store) for store in whole_stores(form) if set(known) <= set(store)]
    words = set(holds(one, sentence) for one in views)
    return {(True,): "yes", (False,): "no"}.get(tuple(words), "maybe")


class MayAsk(unittest.TestCase):
    def test_told(self):
        for known, told in (
            ((), ("n",)), ((("n", 0),), ()), ((("n", 1),), ("b",)), ((("n", 1), ("b", 0)), ("s",)), ((("n", 1), ("b", 1)), ()),
            ((("b", 0),), ("n",)), ((("b", 0), ("s", ())), ("n",)), ((("s", ()), ("x", 1)), ("n",)), ((("n", 2), ("s", (0,))), ("b",)),
            ((("n", 0), ("b", 0)), ()), ((("n", 3), ("b", 0), ("s", ())), ()),
        ):
            self.assertEqual(may_ask(FORM, known), told, known)
        self.assertEqual(may_ask((), ()), ())

    def test_in_the_order_of_the_form(self):
        form = (("z", ("one", 2), TRUE), ("a", ("one", 2), TRUE), ("m", ("one", 2), ("any", (("given", "a"), ("given", "x"))))) + FORM[:1]
        self.assertEqual(may_ask(form[:2] + (form[2][:2] + (("given", "a"),),), ()), ("z", "a", "m"))

    def test_a_state_of_maybe_may_not_be_asked(self):
        # b shows whatever a is; but its state is maybe by the rules of boxes.
        form = (("a", ("one", 2), TRUE), ("b", ("one", 2), ("any", (("is", "a", 0), ("is", "a", 1)))))
        self.assertEqual(states(form, whole(form, ())), ("yes", "maybe"))
        self.assertEqual(may_ask(form, ()), ("a",))
        self.assertEqual(may_ask(form, (("a", 1),)), ("b",))

    def test_names_of_the_arguments(self):
        self.assertEqual(may_ask(form=FORM, known=()), ("n",))
        self.assertEqual(is_sure(form=(), known=(), sentence=TRUE), "yes")


class IsSure(unittest.TestCase):
    def check(self, known, sentence, told, form=FORM):
        self.assertEqual(is_sure(form, known, sentence), told, (known, sentence))

    def test_told(self):
        for known, sentence, told in (
            ((), TRUE, "yes"), ((), FALSE, "no"), ((), ("given", "n"), "yes"), ((), ("given", "x"), "no"), ((), ("given", "b"), "maybe"),
            ((("n", 0),), ("given", "b"), "no"), ((("n", 1),), ("given", "b"), "yes"), ((("n", 1), ("b", 1)), ("given", "s"), "no"),
            ((("b", 1),), ("given", "s"), "no"), ((("b", 0),), ("given", "s"), "maybe"), ((("n", 1), ("b", 0)), ("has", "s", 0), "maybe"),
            ((), ("has", "s", 7), "no"), ((), ("least", (0, (("times", "n", 1),)), 0), "yes"),
        ):
            self.check(known, sentence, told)
        self.assertEqual(is_sure((), (), ("least", (1, ()), 2)), "no")

    def test_known_answers_that_do_not_show(self):
        self.check((("n", 0), ("b", 0), ("s", (0,))), ("any", (("given", "b"), ("has", "s", 0))), "no")
        self.check((("x", 1),), ("is", "x", 1), "no")
        self.check((("n", 1), ("b", 0), ("s", (0,))), ("has", "s", 0), "yes")

    def test_sure_although_the_word_is_maybe(self):
        for sentence, told in (
            (("any", (("is", "b", 0), ("not", ("is", "b", 0)))), "yes"),
            (("all", (("given", "b"), ("not", ("given", "b")))), "no"),
            (("all", (("given", "s"), ("is", "b", 1))), "no"),
            (("any", (("not", ("given", "b")), ("is", "b", 0), ("is", "b", 1))), "yes"),
            (("least", (0, (("times", "n", 1), ("times", "n", -1))), 0), "yes"),
            (("least", (0, (("where", ("has", "s", 0), 1), ("where", ("not", ("has", "s", 0)), 1))), 2), "no"),
        ):
            self.assertEqual(surely(FORM, whole(FORM, ()), sentence), "maybe")
            self.check((), sentence, told)

    def test_wide_numbers(self):
        form = (("n", ("number", -1000, 1000), TRUE), ("b", ("one", 2), ("least", (0, (("times", "n", 7),)), 18)))
        last = ("least", (0, (("times", "n", 1),)), 1000)
        self.check((), ("all", (("given", "b"), ("not", last))), "maybe", form=form)
        self.check((), ("all", (("not", ("given", "b")), last)), "no", form=form)
        three = ("least", (0, (("times", "n", 1),)), 3)
        same = ("any", (("all", (("given", "b"), three)), ("not", ("any", (("given", "b"), three)))))
        self.check((), same, "yes", form=form)
        self.check((), ("not", same), "no", form=form)

    def test_by_all_whole_stores(self):
        dice = random.Random(63)
        seen = {"yes": 0, "no": 0, "maybe": 0, "sharper": 0}
        for turn in range(1000):
            form = lively_form(dice, dice.randint(1, 4))
            known = tuple(pair for pair in random_pairs(dice, form) if dice.random() < 0.3)
            sentence = lively_sentence(dice, kinds_of(form), 3)
            told = is_sure(form, known, sentence)
            self.assertEqual(told, sure_by_all(form, known, sentence))
            seen[told] += 1
            seen["sharper"] += told != surely(form, whole(form, known), sentence)
            self.assertEqual(may_ask(form, known), tuple(
                name for name, state in zip(names(form), states(form, whole(form, known))) if name not in dict(known) and state == "yes"
            ))
        self.assertTrue(seen["yes"] > 50 and seen["no"] > 50 and seen["maybe"] > 50 and seen["sharper"] > 5, seen)

    def test_while_it_is_not_sure_something_may_be_asked(self):
        dice = random.Random(64)
        asked = 0
        for turn in range(300):
            form = lively_form(dice, 4)
            sentence = lively_sentence(dice, kinds_of(form), 3)
            known = ()
            while is_sure(form, known, sentence) == "maybe":
                told = dict(zip(names(form), states(form, whole(form, known))))
                first = [name for name in names(form) if name not in dict(known) and told[name] != "no"][0]
                self.assertIn(first, may_ask(form, known))
                name = dice.choice(may_ask(form, known))
                known = sorted_store(form, known + ((name, dice.choice(answers(question_of(form, name)[1]))),))
                asked += 1
        self.assertGreater(asked, 100)


if __name__ == "__main__":
    unittest.main()
