"""Points [88] to [92]: a desk."""

import random
import unittest

from askfolds.counting import how_many
from askfolds.desk import Desk
from askfolds.errors import FoldError, NoAnswer, NoChange, NoName, NoPiece, NoRow, NoStep
from askfolds.folds import is_fold, is_fold_store, spots
from askfolds.foldviews import fold_holds, fold_value
from askfolds.keeping import Keeper
from askfolds.kinds import answers, size
from askfolds.readings import read_change, read_fold_store, read_form, read_sentence, read_term
from askfolds.showing import shown
from askfolds.texts import shown_answer, shown_change, shown_fold_store, shown_form, shown_sentence, shown_spot, shown_term
from askfolds.unfolding import flat_sentence, flat_store, unfolded
from tests.helpers import FALSE, TRUE, lively_sentence, random_fold, random_fold_store, random_term, seen_behind

# Whether it has kids, these, and what the whole of their ages is good for.
BEGIN = (
    "change put - 0 ask n number -3 9 all 0",
    "change put - 1 block kid 3 least sum 0 1 times n 1 1 0",
    "change put kid 0 ask age number 0 99 all 0",
    "change put kid 1 ask job one 3 least sum 0 1 times age 1 6",
    "change put kid 2 ask toy some 3 all 0",
    "change put - 2 ask tax one 2 least sum 0 1 pieces kid sum 0 1 times age 1 40",
)
FOLD = (
    "ask n number -3 9 all 0 | block kid 3 least sum 0 1 times n 1 1 3 age number 0 99 all 0 job one 3 least sum 0 1 times age 1 6 toy some 3 all 0 | "
    "ask tax one 2 least sum 0 1 pieces kid sum 0 1 times age 1 40"
)
LOOKS = ("shown", "open", "aside", "fold", "store", "unfolded")


def begun(*rows):
    """Tell a desk that was told these rows."""
    desk = Desk()
    for row in rows:
        desk.say(row)
    return desk


def seen_at(desk):
    """Tell all looks of a desk that ask for nothing."""
    return [desk.say(row) for row in LOOKS]


class Said(unittest.TestCase):
    def said(self, desk, *rows):
        """Look at the answers to rows, pairs (row, answer)."""
        for row, answer in rows:
            self.assertEqual(desk.say(row), answer, row)

    def refused(self, desk, said, kind, **fields):
        """Look whether a row is refused so, and changes nothing."""
        before = desk.say("fold"), desk.say("store")
        with self.assertRaises(FoldError) as caught:
            desk.say(said)
        self.assertIs(type(caught.exception), kind, said)
        self.assertEqual(vars(caught.exception), fields, said)
        self.assertEqual((desk.say("fold"), desk.say("store")), before)

    def no_row(self, desk, said):
        self.refused(desk, said, NoRow, row=said)


class Deeds(Said):
    def test_a_new_desk(self):
        self.said(Desk(), *((row, "-") for row in LOOKS))
        self.said(Desk(), ("value sum 7 0", "7"), ("holds all 0", "yes"), ("holds any 0", "no"), ("count all 0", "1"), ("count any 0", "0"))
        self.refused(Desk(), "back", NoStep)

    def test_changes(self):
        desk = Desk()
        self.said(desk, *zip(BEGIN, ("+n", "-", "-", "-", "-", "-")), ("fold", FOLD), ("shown", "n"), ("store", "- | 0"))
        self.said(desk, ("answer n 2", "+kid"), ("change wish tax all 0", "+tax"), ("change wish kid any 0", "-kid"), ("back", "+kid"))

    def test_answers_and_pieces(self):
        desk = begun(*BEGIN)
        self.said(
            desk, ("answer n 2", "+kid"), ("in kid 0", "+age.0 +toy.0"), ("in kid 1", "+age.1 +toy.1"), ("answer age.1 30", "+job.1"), ("answer age.0 10", "+job.0 +tax"),
            ("answer job.1 2", "-"), ("answer toy.0 /0/2", "-"), ("answer toy.1 /", "-"), ("answer tax 1", "-"), ("open", "job.0"),
            ("store", "n=2 tax=1 | 2 ; age=10 toy=/0/2 ; age=30 job=2 toy=/"), ("shift kid 1 0", "-"),
            ("store", "n=2 tax=1 | 2 ; age=30 job=2 toy=/ ; age=10 toy=/0/2"), ("shift kid 0 0", "-"), ("out kid 0", "-age.1 -job.1 -toy.1 -tax"), ("aside", "tax=1"),
            ("store", "n=2 tax=1 | 1 ; age=10 toy=/0/2"), ("back", "+age.1 +job.1 +toy.1 +tax"), ("away age.1", "-job.1 -tax"), ("aside", "tax=1"), ("away tax", "-"), ("aside", "-"),
        )

    def test_came_then_went(self):
        desk = begun("change put - 0 ask a one 2 all 0", "change put - 1 ask b one 2 is a 0", "change put - 2 ask c one 2 is a 1", "change put - 3 ask d one 2 is a 1")
        self.said(desk, ("answer a 0", "+b"), ("answer a 1", "+c +d -b"), ("answer a 0", "+b -c -d"), ("away a", "-b"), ("back", "+b"), ("back", "+c +d -b"))

    def test_what_is_lost(self):
        desk = begun(*BEGIN, "answer n 2", "in kid 0", "in kid 1", "in kid 2", "answer toy.2 /0/1", "answer age.2 5", "answer age.0 50", "answer tax 1", "answer toy.0 /")
        self.said(
            desk, ("change take tax", "-tax | tax 1 gone"), ("change kind toy some 1", "- | toy.2 /0/1 kind"), ("back", "-"),
            ("change take toy", "-toy.0 -toy.1 -toy.2 | toy.0 / gone | toy.2 /0/1 gone"), ("change most kid 2", "-age.2 | age.2 5 piece"),
            ("change kind n number -3 1", "-kid -age.0 -job.0 -age.1 | n 2 kind"), ("aside", "kid=2 age.0=50"), ("back", "+kid +age.0 +job.0 +age.1"), ("back", "+age.2"),
            ("back", "+toy.0 +toy.1 +toy.2"), ("back", "+tax"), ("store", "n=2 tax=1 | 3 ; age=50 toy=/ ; - ; age=5 toy=/0/1"),
        )

    def test_nothing_came_and_something_is_lost(self):
        desk = begun("change put - 0 block c 3 all 0 1 x some 2 all 0", "in c 0", "in c 0", "in c 0", "answer x.2 /0/1", "change wish x any 0")
        self.said(desk, ("change take x", "- | x.2 /0/1 gone"))

    def test_negative_numbers(self):
        desk = begun("change put - 0 ask n number -5 5 all 0")
        self.said(desk, ("answer n -5", "-"), ("store", "n=-5"), ("value sum -3 1 times n -2", "7"), ("holds least sum 0 1 times n 1 -5", "yes"))


class Refused(Said):
    def test_as_the_keeper_refuses(self):
        desk = begun(*BEGIN, "answer n 2", "in kid 0")
        for row, kind, fields in (
            ("answer x 1", NoName, {"name": "x"}), ("answer kid 1", NoName, {"name": "kid"}), ("answer age 1", NoName, {"name": "age"}), ("answer age.1 1", NoName, {"name": ("age", 1)}),
            ("answer n.0 1", NoName, {"name": ("n", 0)}), ("answer tax 1", NoAnswer, {"word": "hidden"}), ("answer job.0 9", NoAnswer, {"word": "hidden"}),
            ("answer n 10", NoAnswer, {"word": "kind"}), ("answer n /", NoAnswer, {"word": "kind"}), ("answer toy.0 0", NoAnswer, {"word": "kind"}), ("answer toy.0 /3", NoAnswer, {"word": "kind"}),
            ("away x1", NoName, {"name": "x1"}), ("away kid", NoName, {"name": "kid"}), ("away age.7", NoName, {"name": ("age", 7)}), ("away tax", NoAnswer, {"word": "none"}),
            ("in x 0", NoPiece, {"word": "block"}), ("in n 0", NoPiece, {"word": "block"}), ("out age 0", NoPiece, {"word": "block"}), ("shift x2 0 0", NoPiece, {"word": "block"}),
            ("in kid 2", NoPiece, {"word": "place"}), ("in kid -1", NoPiece, {"word": "place"}), ("out kid 1", NoPiece, {"word": "place"}), ("out kid -999999999999", NoPiece, {"word": "place"}),
            ("shift kid 0 1", NoPiece, {"word": "place"}), ("shift kid 1 0", NoPiece, {"word": "place"}), ("change take x", NoChange, {"word": "name"}), ("change take kid", NoChange, {"word": "fold"}),
            ("change move n 3", NoChange, {"word": "place"}), ("change most n 2", NoChange, {"word": "name"}), ("change most kid 0", NoChange, {"word": "fold"}),
            ("change put - 9 ask y one 2 all 0", NoChange, {"word": "place"}), ("change put - 0 ask y1 one 2 all 0", NoChange, {"word": "fold"}), ("change kind age one 2", NoChange, {"word": "fold"}),
            ("change put n 0 ask y one 2 all 0", NoChange, {"word": "name"}), ("change wish n given tax", NoChange, {"word": "fold"}), ("change kind kid one 2", NoChange, {"word": "name"}),
        ):
            self.refused(desk, row, kind, **fields)
        desk.say("in kid 0")
        desk.say("in kid 0")
        self.refused(desk, "in kid 9", NoPiece, word="most")
        desk.say("answer n 0")
        for row in ("in kid 0", "out kid 9", "shift kid 0 0"):
            self.refused(desk, row, NoPiece, word="hidden")

    def test_what_is_refused_is_no_deed(self):
        desk = begun("change put - 0 ask a one 2 all 0")
        for row in ("answer a 2", "answer b 1", "away a", "change take b", "in a 0", "nothing", ""):
            with self.assertRaises(FoldError):
                desk.say(row)
        self.said(desk, ("back", "-a"), ("fold", "-"))
        self.refused(desk, "back", NoStep)

    def test_blanks(self):
        desk = begun(*BEGIN, "answer n 2", "in kid 0")
        for row in (
            "answer n 3", "away n", "in kid 0", "out kid 0", "shift kid 0 0", "change take tax", "back", "shown", "open", "aside", "fold", "store", "unfolded", "value sum 1 0",
            "holds all 0", "count all 0",
        ):
            for spoiled in (row + " ", " " + row, row.replace(" ", "  "), row + " x", "x " + row, row.upper(), row + " 0", row[:-1] + " " + row[-1], row + "|", row + "\t", row + "\n"):
                if spoiled != row:
                    self.no_row(desk, spoiled)
        for row in ("", " ", "  ", "-", "|", "+n"):
            self.no_row(desk, row)

    def test_words_more_or_fewer_and_other_words(self):
        desk = begun(*BEGIN, "answer n 2", "in kid 0")
        for row in (
            "answer", "answer n", "answer n 3 3", "answer 3 n", "answer n=3", "answer N 3", "answer n +3", "answer n 03", "answer n 3.0", "answer n three", "answer age.00 3", "answer age.-1 3",
            "answer age. 3", "answer .0 3", "answer toy.0 /2/1", "answer toy.0 //", "answer toy.0 0/1", "answer toy.0 /0/0", "answer toy.0 /-1", "answer n -", "answer n -0", "answer abcdefghi 1",
            "away", "away n n", "away 0", "away age.x", "away -", "in", "in kid", "in kid 0 0", "in kid x", "in 0 kid", "in - 0", "in kid.0 0", "in kid 00", "in kid 1.", "out", "out kid", "out kid 0 0",
            "out KID 0", "shift kid", "shift kid 0", "shift kid 0 0 0", "shift 0 0 kid", "shift kid 0 -0", "change", "change take", "change take n n", "change turn n", "change put n", "change put - 0",
            "change put - 0 n number 0 1 all 0", "change put kid 0 block z 1 all 0 0", "change put - x ask z one 2 all 0", "change put - 0 ask z one 0 all 0", "change move n", "change move n x",
            "change kind n one", "change kind n number 2 1", "change wish n", "change wish n all", "change wish n all 1", "change most kid", "change most kid x", "back 1", "back back", "shown n", "open n",
            "aside -", "fold fold", "store 0", "unfolded n", "value", "value 7", "value sum", "value sum 1", "value sum 1 1", "value sum 1 0 0", "value all 0", "holds", "holds all", "holds sum 1 0",
            "holds all 1", "holds all 0 all 0", "count", "count sum 1 0", "count all", "say", "ask n", "put - 0 ask z one 2 all 0", "take n", "Answer n 3", "opened", "undo", "piece_in kid 0", "holds yes",
        ):
            self.no_row(desk, row)

    def test_numbers_of_thirteen_figures(self):
        desk = begun(*BEGIN, "answer n 2", "in kid 0")
        for row in (
            "answer n {}", "answer toy.0 /{}", "answer age.{} 1", "away age.{}", "in kid {}", "out kid {}", "shift kid {} 0", "shift kid 0 {}", "change move n {}", "change most kid {}",
            "change kind n number -5 {}", "value sum {} 0", "holds least sum 0 0 {}", "count least sum 0 0 {}", "value sum 0 1 times n {}",
        ):
            self.no_row(desk, row.format("1000000000000"))
            if not any(word in row for word in ("/", ".", "kind")):
                self.no_row(desk, row.format("-1000000000000"))
        self.refused(desk, "answer n 999999999999", NoAnswer, word="kind")
        self.refused(desk, "in kid 999999999999", NoPiece, word="place")
        self.said(desk, ("value sum -999999999999 0", "-999999999999"), ("holds least sum 0 0 999999999999", "no"))

    def test_sentences_within_one_another(self):
        desk = Desk()
        fifteen = "not " * 15
        self.said(
            desk, (f"holds {fifteen}all 0", "no"), (f"count {fifteen}all 0", "0"), (f"value sum 0 1 where {fifteen}any 0 3", "3"), (f"change put - 0 ask a one 2 {fifteen}any 0", "+a"),
        )
        for row in (f"holds not {fifteen}all 0", f"count not {fifteen}all 0", f"value sum 0 1 where not {fifteen}all 0 3", f"change wish a not {fifteen}all 0"):
            self.no_row(desk, row)

    def test_sentences_and_terms_of_the_fold_alone(self):
        desk = begun(*BEGIN, "answer n 2", "in kid 0")
        for sentence in (
            "given x", "given age", "given toy", "is n 1", "has tax 0", "is kid 0", "has toy 0", "least sum 0 1 times age 1 3", "least sum 0 1 times tax 1 3", "least sum 0 1 of n 1 1 3",
            "not given x", "all 2 all 0 given age", "least sum 0 1 pieces n sum 0 0 3", "least sum 0 1 pieces age sum 0 0 3", "least sum 0 1 pieces kid sum 0 1 times n 1 3",
            "least sum 0 1 pieces kid sum 0 1 where given tax 1 3", "least sum 0 1 where given age 1 3", "given n1", "given age0",
        ):
            self.no_row(desk, f"holds {sentence}")
            self.no_row(desk, f"count {sentence}")
            self.no_row(desk, f"value sum 0 1 where {sentence} 1")
        for term in ("sum 0 1 times x 1", "sum 0 1 times age 1", "sum 0 1 of n 0", "sum 0 1 times tax 1", "sum 0 1 pieces kid sum 0 1 times n 1", "sum 0 1 pieces tax sum 0 0"):
            self.no_row(desk, f"value {term}")
        self.said(
            desk, ("holds given tax", "no"), ("holds given kid", "yes"), ("value sum 1 1 pieces kid sum 2 2 where given n 3 where given toy 4", "6"),
            ("holds least sum 0 1 times kid 1 1", "yes"), ("value sum 0 1 of tax 0", "0"),
        )
        # A change of the FOLD makes other ones rows.
        desk.say("change take tax")
        self.no_row(desk, "holds given tax")
        desk.say("back")
        self.said(desk, ("holds given tax", "no"))

    def test_no_row_goes_first(self):
        desk = Desk()
        self.no_row(desk, "answer n 3 3")
        self.no_row(desk, "back 1")
        self.no_row(desk, "away x y")
        self.refused(desk, "answer n 3", NoName, name="n")


class Looks(Said):
    def test_several(self):
        desk = begun(*BEGIN, "answer n 3", "in kid 0", "in kid 0", "answer age.0 40", "answer toy.1 /1")
        self.said(
            desk, ("shown", "n kid age.0 job.0 toy.0 age.1 toy.1 tax"), ("open", "job.0 toy.0 age.1 tax"), ("aside", "-"), ("store", "n=3 | 2 ; age=40 ; toy=/1"), ("fold", FOLD),
            ("value sum 1 2 times n 10 pieces kid sum 100 1 times age 1", "271"), ("holds least sum 0 1 times kid 1 2", "yes"), ("holds least sum 0 1 times kid 1 3", "no"),
            ("answer n 0", "-kid -age.0 -job.0 -toy.0 -age.1 -toy.1 -tax"), ("shown", "n"), ("open", "-"), ("aside", "kid=2 age.0=40 toy.1=/1"),
            ("value sum 1 2 times n 10 pieces kid sum 100 1 times age 1", "1"), ("holds given kid", "no"),
        )

    def test_unfolded(self):
        desk = begun("change put - 0 ask n number 0 1 all 0", "change put - 1 block k 2 given n 1 x one 2 given n")
        self.said(
            desk, ("unfolded", "ask n number 0 1 all 0 | ask k number 0 2 given n | ask x0 one 2 all 2 least sum 0 1 times k 1 1 given n | ask x1 one 2 all 2 least sum 0 1 times k 1 2 given n"),
            ("count all 0", "14"), ("count given k", "14"), ("count least sum 0 1 pieces k sum 0 1 of x 2 0 1 1", "8"), ("count not given n", "0"),
        )

    def test_count_does_not_hang_on_what_is_stored(self):
        desk = begun("change put - 0 ask a one 2 all 0", "change put - 1 ask b some 2 is a 1")
        for row in ("answer a 1", "answer b /0", "away b", "answer a 0"):
            desk.say(row)
            self.said(desk, ("count all 0", "5"), ("count given b", "4"), ("count has b 1", "2"), ("count is a 0", "1"), ("count is a 7", "0"))


class So(Said):
    def put_in(self, fold):
        """Tell the rows by which a desk, and the changes by which a keeper, gets this FOLD."""
        changes = [("put", "", place, item) for place, item in enumerate(fold)]
        return ["change " + shown_change(change) for change in changes], changes

    def do_both(self, dice, desk, keeper, many):
        """Say any deeds, let the keeper do the same, and look whether both tell the same."""
        for turn in range(many):
            row, deed, things = self.any_deed(dice, keeper)
            try:
                told = getattr(keeper, deed)(*things)
            except FoldError as caught:
                self.refused(desk, row, type(caught), **vars(caught))
                continue
            text = " ".join([f"+{shown_spot(spot)}" for spot in told[0]] + [f"-{shown_spot(spot)}" for spot in told[1]]) or "-"
            for spot, answer, word in told[2] if deed == "change" else ():
                text += f" | {shown_spot(spot)} {shown_answer(answer)} {word}"
            self.assertEqual(desk.say(row), text, row)

    def any_deed(self, dice, keeper):
        """Choose a deed: its row, the keeper's method and the things for it."""
        some = list(spots(keeper.fold(), keeper.store())) + list(keeper.shown()) * 2 + ["zz", ("zz", 1)]
        blocks = [item[0] for item in keeper.fold() if len(item) == 4] * 3 + ["zz"]
        spot, block = dice.choice(some), dice.choice(blocks)
        answer = dice.choice((0, 1, 2, -1, (), (0,), (0, 1)))
        one, other = dice.choice((0, 0, 1, 2, -1)), dice.choice((0, 1, 2))
        name = spot if isinstance(spot, str) else spot[0]
        change = dice.choice((
            ("take", name), ("move", name, one), ("kind", name, dice.choice((("one", 2), ("some", 2), ("number", 0, 1)))), ("most", block, other),
            ("wish", name, dice.choice((TRUE, FALSE))), ("put", dice.choice(("", block)), other, ("z" + dice.choice("abc"), ("one", 2), TRUE)),
        ))
        return dice.choice((
            (f"answer {shown_spot(spot)} {shown_answer(answer)}", "answer", (spot, answer)), (f"answer {shown_spot(spot)} 1", "answer", (spot, 1)),
            (f"away {shown_spot(spot)}", "away", (spot,)), (f"in {block} {one}", "piece_in", (block, one)), (f"in {block} 0", "piece_in", (block, 0)),
            (f"out {block} {one}", "piece_out", (block, one)), (f"shift {block} {one} {other}", "piece_moved", (block, one, other)),
            ("change " + shown_change(change), "change", (change,)), ("back", "back", ()),
        ))

    def test_as_the_keeper_and_the_functions_tell(self):
        dice = random.Random(91)
        for turn in range(60):
            rows, changes = self.put_in(random_fold(dice, dice.randint(1, 4)))
            desk, keeper = begun(*rows), Keeper((), ((), ()))
            for change in changes:
                keeper.change(change)
            self.do_both(dice, desk, keeper, 25)
            fold, store = keeper.fold(), keeper.store()
            self.said(
                desk, ("shown", " ".join(shown_spot(spot) for spot in keeper.shown()) or "-"), ("open", " ".join(shown_spot(spot) for spot in keeper.opened()) or "-"),
                ("aside", " ".join(f"{shown_spot(spot)}={shown_answer(answer)}" for spot, answer in keeper.aside()) or "-"), ("fold", " | ".join(shown_form(fold)) or "-"),
                ("store", " | ".join(shown_fold_store(store))), ("unfolded", " | ".join(shown_form(unfolded(fold))) or "-"),
            )
            self.check_looks(dice, desk, fold, store)

    def check_looks(self, dice, desk, fold, store):
        """Look at values, sentences and counts."""
        ahead, blocks = seen_behind(fold)
        form = unfolded(fold)
        stores = 1
        for question in form:
            stores *= size(question[1])
        for turn in range(4):
            sentence, term = lively_sentence(dice, ahead, 2, blocks), random_term(dice, ahead, 2, blocks)
            self.said(desk, (f"value {shown_term(term)}", str(fold_value(fold, store, term))), (f"holds {shown_sentence(sentence)}", "yes" if fold_holds(fold, store, sentence) else "no"))
            if stores <= 2000:
                self.said(desk, (f"count {shown_sentence(sentence)}", str(how_many(form, flat_sentence(fold, sentence)))))

    def test_what_is_told_is_read_again(self):
        desk = begun(*BEGIN, "answer n 3", "in kid 0", "in kid 0", "answer age.0 40", "answer toy.1 /1/2", "answer n 0")
        fold = read_form(desk.say("fold").split(" | "))
        store = read_fold_store(desk.say("store").split(" | "))
        form = read_form(desk.say("unfolded").split(" | "))
        self.assertTrue(is_fold(fold) and is_fold_store(fold, store))
        self.assertEqual(form, unfolded(fold))
        self.assertEqual(shown(form, flat_store(fold, store)), ("n",))
        keeper = Keeper(fold, store)
        self.assertEqual(keeper.aside(), (("kid", 2), (("age", 0), 40), (("toy", 1), (1, 2))))
        keeper.answer("n", 1)
        self.said(desk, ("answer n 1", "+kid +age.0 +job.0 +toy.0 +age.1 +toy.1 +tax"))
        self.assertEqual(keeper.store(), read_fold_store(desk.say("store").split(" | ")))

    def test_texts_told_by_the_functions_are_rows(self):
        desk = Desk()
        change = ("put", "", 0, ("a", ("some", 3), ("least", (1, (("where", TRUE, -2),)), -1)))
        self.assertEqual(read_change(shown_change(change)), change)
        self.said(desk, ("change " + shown_change(change), "+a"), ("answer a " + shown_answer((0, 2)), "-"))
        term, sentence = (1, (("of", "a", (5, 6, 7)),)), ("all", (("has", "a", 2), ("not", ("has", "a", 1))))
        self.assertEqual((read_term(shown_term(term)), read_sentence(shown_sentence(sentence))), (term, sentence))
        self.said(desk, ("value " + shown_term(term), "13"), ("holds " + shown_sentence(sentence), "yes"), ("count " + shown_sentence(sentence), "2"))

    def test_two_desks(self):
        one, other = begun(*BEGIN), begun(*BEGIN)
        one.say("answer n 3")
        one.say("change take tax")
        self.said(other, ("shown", "n"), ("open", "n"), ("fold", FOLD))
        other.say("answer n 0")
        self.said(one, ("store", "n=3 | 0"), ("back", "-"), ("fold", FOLD))
        self.said(other, ("store", "n=0 | 0"), ("back", "-"), ("open", "n"))
        self.said(Desk(), *((row, "-") for row in LOOKS))

    def test_sixty_deeds_and_any_looks(self):
        desk = begun("change put - 0 ask n number 0 99 all 0")
        for turn in range(59):
            self.said(desk, (f"answer n {turn}", "-"), ("value sum 0 1 times n 1", str(turn)), ("shown", "n"))
        for turn in range(58, 0, -1):
            self.said(desk, ("back", "-"), ("value sum 0 1 times n 1", str(turn - 1)))
        self.said(desk, ("back", "-"), ("open", "n"), ("back", "-n"))
        self.refused(desk, "back", NoStep)

    def test_looks_change_nothing(self):
        desk = begun("change put - 0 ask n number 0 3 all 0", "change put - 1 block kid 2 given n 1 toy some 2 all 0", "answer n 3", "in kid 0")
        first = seen_at(desk)
        for row in LOOKS + ("value sum 0 0", "holds all 0", "count any 0", "count given kid"):
            desk.say(row)
        self.assertEqual(seen_at(desk), first)
        self.said(desk, ("back", "-toy.0"))

    def test_count_as_how_many(self):
        dice = random.Random(90)
        done = 0
        for turn in range(60):
            fold = random_fold(dice, dice.randint(1, 3))
            form = unfolded(fold)
            stores = 1
            for question in form:
                stores *= size(question[1])
            if stores > 2000:
                continue
            done += 1
            desk = begun(*self.put_in(fold)[0])
            ahead, blocks = seen_behind(fold)
            store = random_fold_store(dice, fold)
            for (name, kind, wish), answer in zip([item for item in fold if len(item) == 3], [pair[1] for pair in store[0]]):
                if answer in answers(kind) and name in desk.say("shown").split(" "):
                    desk.say(f"answer {name} {shown_answer(answer)}")
            for again in range(4):
                sentence = lively_sentence(dice, ahead, 3, blocks)
                self.assertEqual(desk.say(f"count {shown_sentence(sentence)}"), str(how_many(form, flat_sentence(fold, sentence))))
        self.assertGreater(done, 20)

    def test_names_of_the_arguments(self):
        self.assertEqual(Desk().say(row="shown"), "-")


if __name__ == "__main__":
    unittest.main()
