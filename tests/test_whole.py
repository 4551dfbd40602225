"""Points [2], [7], [22], [31], [53], [85] and [92], over the whole program: what one function tells, handed into others."""

import importlib
import inspect
import os
import random
import unittest

from askfolds.alikechecker import lets_alike
from askfolds.askchecker import lets_asks
from askfolds.asktrees import ask_tree
from askfolds.boxes import has, is_box, whole
from askfolds.casechecker import lets_cases
from askfolds.cases import claim_cases
from askfolds.changing import changed
from askfolds.comparing import alike
from askfolds.counting import by_answers, how_many
from askfolds.desk import Desk
from askfolds.extremechecker import lets_least
from askfolds.extremes import contrary, greatest, least
from askfolds.foldchanges import fold_changed, fold_led
from askfolds.folds import is_fold, is_fold_store
from askfolds.forms import is_form, kinds_of, names
from askfolds.keeping import Keeper
from askfolds.leading import led
from askfolds.listing import filling_at, number_of, row_of
from askfolds.needchecker import lets_needs
from askfolds.needs import needs_paper
from askfolds.orders import ahead, reordered
from askfolds.pruning import always_shown, never_shown, pruned, without
from askfolds.reachchecker import lets_reach
from askfolds.reaching import answers_term, reach
from askfolds.readings import read_cases, read_change, read_fold_store, read_form, read_pairs, read_sentence, read_term
from askfolds.showing import aside, is_filling, is_store, opened, shown, sorted_store, view
from askfolds.surely import states, surely
from askfolds.texts import shown_cases, shown_change, shown_fold_store, shown_form, shown_pairs, shown_sentence, shown_term
from askfolds.unfolding import flat_sentence, flat_store, flat_term, unfolded
from askfolds.views import holds, value
from tests.helpers import TRUE, lively_form, lively_sentence, random_fold, random_fold_store, random_term, seen_behind, whole_stores

PACKAGE = os.path.join(os.path.dirname(os.path.dirname(os.path.abspath(__file__))), "askfolds")

INTERFACE = {
    "kinds": "is_number(thing) is_name(thing) is_kind(thing) is_answer(kind,thing) size(kind) answers(kind)",
    "terms": "is_sentence(kinds,thing) is_term(kinds,thing) names_in(sentence) names_of(term)",
    "forms": "is_form(thing) kinds_of(form) names(form) question_of(form,name) place_of(form,name)",
    "views": "holds(pairs,sentence) value(pairs,term)",
    "showing": "is_store(form,thing) is_filling(form,thing) sorted_store(form,pairs) shown(form,store) opened(form,store) view(form,store) aside(form,store)",
    "counting": "how_many(form,sentence) by_answers(form,sentence,name)",
    "listing": "row_of(form,filling) filling_at(form,sentence,k) number_of(form,sentence,filling)",
    "orders": "ahead(form,name) behind(form,name) reordered(form,some)",
    "boxes": "is_box(form,thing) whole(form,known) has(form,box,store) parts(form,box,row)",
    "surely": "states(form,box) surely(form,box,sentence) low_high(form,box,term)",
    "casechecker": "lets_cases(form,known,claim,thing)",
    "cases": "claim_cases(form,known,claim)",
    "reachchecker": "lets_reach(form,sentence,thing)",
    "reaching": "answers_term(form) reach(form,sentence)",
    "extremes": "contrary(term) least(form,sentence,term) greatest(form,sentence,term)",
    "extremechecker": "lets_least(form,sentence,term,thing)",
    "pruning": "never_shown(form) always_shown(form) without(form,thing) pruned(form)",
    "changing": "changed(form,thing)",
    "leading": "led(elder,newer,store)",
    "settling": "settled(form,box,term)",
    "alikechecker": "lets_alike(one,term,other,another,thing)",
    "comparing": "alike(one,term,other,another)",
    "asking": "may_ask(form,known) is_sure(form,known,sentence)",
    "askchecker": "lets_asks(form,sentence,thing)",
    "asktrees": "ask_tree(form,sentence)",
    "needchecker": "lets_needs(form,sentence,thing)",
    "needs": "needs_paper(form,sentence)",
    "folds": "is_fold(thing) is_fold_store(fold,thing) spots(fold,store)",
    "unfolding": "unfolded(fold) flat_sentence(fold,sentence) flat_term(fold,term) flat_store(fold,store)",
    "foldviews": "fold_shown(fold,store) fold_opened(fold,store) fold_aside(fold,store) fold_holds(fold,store,sentence) fold_value(fold,store,term)",
    "pieces": "piece_in(fold,store,block,place) piece_out(fold,store,block,place) piece_moved(fold,store,block,one,other)",
    "foldchanges": "fold_changed(fold,thing) fold_led(elder,newer,store)",
    "texts": "shown_answer(answer) shown_spot(spot) shown_sentence(sentence) shown_term(term) shown_pairs(pairs) shown_change(change) shown_form(form) "
             "shown_fold_store(store) shown_cases(cases)",
    "readings": "read_answer(text) read_spot(text) read_sentence(text) read_term(text) read_pairs(text) read_change(text) read_form(lines) "
                "read_fold_store(lines) read_cases(lines)",
}
CLASSES = {
    ("keeping", "Keeper"): "__init__(self,fold,store) answer(self,spot,thing) away(self,spot) piece_in(self,block,place) piece_out(self,block,place) "
                           "piece_moved(self,block,one,other) back(self) change(self,thing) fold(self) store(self) shown(self) opened(self) aside(self) "
                           "value(self,term) holds(self,sentence)",
    ("desk", "Desk"): "__init__(self) say(self,row)",
}


def signature(function):
    """Write a function with its arguments."""
    return f"{function.__name__}({','.join(inspect.signature(function).parameters)})"


class Interface(unittest.TestCase):
    def test_functions(self):
        for name, told in INTERFACE.items():
            module = importlib.import_module(f"askfolds.{name}")
            for one in told.split():
                function = getattr(module, one.split("(")[0])
                self.assertEqual(signature(function), one)
                self.assertEqual(function.__module__, f"askfolds.{name}")

    def test_classes(self):
        for (name, held), told in CLASSES.items():
            own = vars(getattr(importlib.import_module(f"askfolds.{name}"), held))
            for one in told.split():
                self.assertEqual(signature(own[one.split("(")[0]]), one)

    def test_a_package_of_files_alone(self):
        self.assertEqual([name for name in os.listdir(PACKAGE) if not name.endswith(".py") and name != "__pycache__"], [])


class Forms(unittest.TestCase):
    def some(self, seed, many):
        """Yield dice, FORMS, SENTENCES and TERMS."""
        dice = random.Random(seed)
        for turn in range(many):
            form = lively_form(dice, dice.randint(1, 4))
            yield dice, form, lively_sentence(dice, kinds_of(form), 2), random_term(dice, kinds_of(form), 2)

    def test_fillings_handed_on(self):
        for dice, form, sentence, term in self.some(1, 100):
            paper = reach(form, sentence)
            if paper[0] == "never":
                self.assertEqual(how_many(form, sentence), 0)
                continue
            for filling in (paper[1], least(form, sentence, term)[1], greatest(form, sentence, term)[1]):
                self.assertTrue(is_filling(form, filling) and is_store(form, filling))
                k = number_of(form, sentence, filling)
                self.assertEqual(filling_at(form, sentence, k), filling)
                self.assertEqual(view(form, filling), filling)
                self.assertEqual((opened(form, filling), aside(form, filling)), ((), ()))
                self.assertEqual(led(form, form, filling), (filling, ()))
                self.assertEqual(read_pairs(shown_pairs(filling)), filling)
                self.assertEqual([names(form)[place] for place, answer in row_of(form, filling)], [name for name, answer in filling])
                # From the filling's own answers it is sure what it comes to.
                word, cases = claim_cases(form, filling, (("all", (sentence, TRUE)), term, value(filling, term)))
                self.assertEqual(word, "cases")
                self.assertIs(lets_cases(form, filling, (sentence, term, value(filling, term)), cases), True)

    def test_whole_stores_handed_on(self):
        for dice, form, sentence, term in self.some(2, 100):
            word, thing = claim_cases(form, (), (sentence, term, dice.randint(-3, 3)))
            if word == "against":
                self.assertTrue(has(form, whole(form, ()), thing) and is_box(form, whole(form, thing)))
                self.assertEqual(surely(form, whole(form, thing), sentence), "yes")
                self.assertEqual(led(form, form, thing), (thing, ()))
            else:
                self.assertEqual(read_cases(shown_cases(thing)), thing)

    def test_papers_of_one_form_for_another_that_is_alike(self):
        for dice, form, sentence, term in self.some(3, 60):
            some = list(names(form))
            dice.shuffle(some)
            order = []
            while some:
                order += [name for name in some if set(ahead(form, name)) <= set(order)][:1]
                some = [name for name in some if name not in order]
            other = reordered(form, tuple(order))
            word, cases = alike(form, term, other, term)
            self.assertEqual(word, "alike")
            self.assertIs(lets_alike(form, term, other, term, cases), True)
            self.assertEqual(how_many(form, sentence), how_many(other, sentence))
            self.assertEqual(reach(form, sentence)[0], reach(other, sentence)[0])
            if reach(form, sentence)[0] == "least":
                self.assertEqual(least(form, sentence, term)[0], least(other, sentence, term)[0])
                self.assertEqual(len(reach(form, sentence)[1]), len(reach(other, sentence)[1]))
            for store in whole_stores(form)[:10]:
                self.assertEqual(set(shown(form, store)), set(shown(other, sorted_store(other, store))))

    def test_pruned_and_changed_forms_handed_on(self):
        for dice, form, sentence, term in self.some(4, 100):
            newer = pruned(form)
            self.assertTrue(is_form(newer))
            gone = [name for name, cases in never_shown(form)]
            for name in gone:
                self.assertIn(reach(form, ("given", name))[0], ("never",))
            for name, cases in always_shown(form):
                self.assertEqual(by_answers(form, TRUE, name)[0], 0)
            if not set(gone) & set(names(form)):
                self.assertEqual(newer, form)
            name = dice.choice(names(form))
            left = without(form, name)
            self.assertEqual(led(form, left, whole_stores(form)[0])[1], ((name, dict(whole_stores(form)[0])[name], "gone"),))
            self.assertEqual(names(changed(left, ("put", 0, (name, ("one", 2), TRUE)))), (name,) + names(left))
            self.assertEqual(read_form(shown_form(left)), left)

    def test_the_least_of_the_answers_term_is_the_fewest(self):
        for dice, form, sentence, term in self.some(5, 100):
            paper = reach(form, sentence)
            if paper[0] == "least":
                number, filling, cases = least(form, sentence, answers_term(form))
                self.assertEqual(number, len(paper[1]))
                self.assertEqual(lets_reach(form, sentence, ("least", filling, cases)), "least")
                self.assertEqual(lets_least(form, sentence, answers_term(form), (number, paper[1], paper[2])), number)
                self.assertEqual(least(form, sentence, contrary(term))[0], -greatest(form, sentence, term)[0])

    def test_nothing_is_both(self):
        for dice, form, sentence, term in self.some(6, 100):
            never = claim_cases(form, (), (sentence, (0, ()), 1))[0] == "cases"
            always = claim_cases(form, (), (("not", sentence), (0, ()), 1))[0] == "cases"
            self.assertFalse(never and always)
            self.assertEqual(never, how_many(form, sentence) == 0)
            self.assertEqual(always, how_many(form, ("not", sentence)) == 0)
            number = lets_asks(form, sentence, ask_tree(form, sentence))
            self.assertEqual(number == 0, never or always)
            self.assertEqual(lets_needs(form, sentence, needs_paper(form, sentence)), number)


class Folds(unittest.TestCase):
    def test_unfolded_forms_handed_on(self):
        dice = random.Random(7)
        for turn in range(40):
            fold = random_fold(dice, 3)
            store = random_fold_store(dice, fold)
            seen, blocks = seen_behind(fold)
            sentence, term = lively_sentence(dice, seen, 2, blocks), random_term(dice, seen, 1, blocks)
            form, flat = unfolded(fold), flat_sentence(fold, sentence)
            stored = flat_store(fold, store)
            self.assertTrue(is_form(form) and is_store(form, stored))
            keeper = Keeper(fold, store)
            self.assertEqual(keeper.holds(sentence), holds(view(form, stored), flat))
            self.assertEqual(keeper.value(term), value(view(form, stored), flat_term(fold, term)))
            self.assertEqual(len(states(form, whole(form, stored))), len(form))
            self.assertEqual(reach(form, flat)[0] == "never", how_many(form, flat) == 0)
            self.assertEqual(read_sentence(shown_sentence(flat)), flat)
            self.assertEqual(read_term(shown_term(flat_term(fold, term))), flat_term(fold, term))
            self.assertEqual(led(form, form, stored), (stored, ()))

    def test_what_a_keeper_tells_makes_another(self):
        dice = random.Random(8)
        for turn in range(60):
            fold = random_fold(dice, 3)
            keeper = Keeper(fold, random_fold_store(dice, fold))
            for name in [item[0] for item in fold][::-1]:
                if dice.random() < 0.3:
                    try:
                        keeper.change(("take", name))
                    except ValueError:
                        keeper.change(("wish", name, TRUE))
            self.assertTrue(is_fold(keeper.fold()) and is_fold_store(keeper.fold(), keeper.store()))
            other = Keeper(keeper.fold(), keeper.store())
            self.assertEqual((other.shown(), other.opened(), other.aside()), (keeper.shown(), keeper.opened(), keeper.aside()))
            for spot, answer in keeper.aside():
                if (isinstance(spot, tuple) or spot in dict(keeper.store()[0])):
                    self.assertEqual(other.away(spot), ((), ()))
            self.assertTrue(all(isinstance(spot, str) for spot, answer in other.aside()))
            self.assertEqual(read_form(shown_form(keeper.fold())), keeper.fold())
            self.assertEqual(read_fold_store(shown_fold_store(keeper.store())), keeper.store())
            self.assertEqual(fold_led(keeper.fold(), other.fold(), keeper.store()), (keeper.store(), ()))

    def test_a_desk_told_what_a_desk_tells(self):
        first, second = Desk(), Desk()
        for row in ("change put - 0 ask n number 0 5 all 0", "change put - 1 block k 2 given n 2 a one 2 all 0 b some 2 is a 1", "answer n 2", "in k 0", "in k 1", "answer a.1 1", "answer b.1 /0"):
            first.say(row)
        for place, item in enumerate(read_form(first.say("fold").split(" | "))):
            second.say("change " + shown_change(("put", "", place, item)))
        store = read_fold_store(first.say("store").split(" | "))
        for name, answer in store[0]:
            second.say(f"answer {name} {answer}")
        for turn in store[1][0]:
            second.say("in k 0")
        second.say("answer a.1 1")
        second.say("answer b.1 /0")
        for row in ("shown", "open", "aside", "fold", "store", "unfolded", "value sum 0 1 pieces k sum 1 1 of a 2 0 5", "holds given k", "count given k"):
            self.assertEqual(first.say(row), second.say(row), row)

    def test_fold_changes_written_and_read(self):
        fold = (("n", ("number", 0, 5), TRUE), ("k", 2, ("given", "n"), (("a", ("one", 2), TRUE),)))
        for change in (
            ("put", "", 0, ("x", ("one", 2), TRUE)), ("put", "k", 1, ("x", ("some", 2), ("given", "a"))), ("take", "a"), ("move", "n", 0), ("kind", "a", ("number", -1, 1)), ("wish", "k", TRUE), ("most", "k", 4),
        ):
            self.assertEqual(fold_changed(fold, read_change(shown_change(change))), fold_changed(fold, change))
            desk, keeper = Desk(), Keeper(fold, ((), ((),)))
            for place, item in enumerate(fold):
                desk.say("change " + shown_change(("put", "", place, item)))
            keeper.change(change)
            desk.say("change " + shown_change(change))
            self.assertEqual(desk.say("fold"), " | ".join(shown_form(keeper.fold())))


if __name__ == "__main__":
    unittest.main()
