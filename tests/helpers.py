"""What several tests need: things that are none of the right ones, and all stores of small forms."""

import itertools

from askfolds.boxes import parts, whole
from askfolds.kinds import answers
from askfolds.terms import names_in
from askfolds.views import holds

BIG = 10 ** 199
TRUE = ("all", ())
FALSE = ("any", ())

ODD_THINGS = (
    None, True, False, 0, 1, -1, BIG, -BIG, "", " ", "a", "one", "given", "leaf", (), [], ((),), [[]],
    (True,), ("one",), ["one", 2], ("given", ["b"]), ("all", []), (0, []), [0, ()], ((), []), [(), ()],
    ("a", 0), ("a", True), (None, None), ("not", ("not", ("not", None))), (("b", ("one", 2)),),
)

# Of each sort one QUESTION with the state yes, one with maybe, one with no.
MAYBE = ("is", "q", 0)
STATES_FORM = (
    ("q", ("one", 2), TRUE),
    ("ny", ("number", -5, 7), TRUE), ("nm", ("number", -5, 7), MAYBE), ("nn", ("number", -5, 7), FALSE),
    ("by", ("one", 4), TRUE), ("bm", ("one", 4), MAYBE), ("bn", ("one", 4), FALSE),
    ("sy", ("some", 4), TRUE), ("sm", ("some", 4), MAYBE), ("sn", ("some", 4), FALSE),
)


def states_box(**spreads):
    """Tell the BOX of STATES_FORM with these RANGES, all others of all ANSWERS."""
    return tuple(
        spreads.get(question[0], spread) for question, spread in zip(STATES_FORM, whole(STATES_FORM, ()))
    )


def deep(thing, times):
    """Put the thing into so many tuples."""
    for turn in range(times):
        thing = (thing,)
    return thing


def spoiled(thing):
    """Yield the thing with one tuple made a list, or one NUMBER made a truth, a text or None, however deep."""
    if isinstance(thing, tuple):
        yield list(thing)
        for at, inner in enumerate(thing):
            for other in spoiled(inner):
                yield thing[:at] + (other,) + thing[at + 1:]
    elif isinstance(thing, int):
        yield bool(thing)
        yield True
        yield False
        yield str(thing)
        yield None
    elif isinstance(thing, str):
        yield True
        yield 0
        yield None
        yield [thing]
        yield (thing,)
        yield thing.upper() + "!"


def whole_stores(form):
    """Tell all WHOLE STORES of a small FORM."""
    names = [question[0] for question in form]
    return [tuple(zip(names, some)) for some in itertools.product(*[answers(question[1]) for question in form])]


def view_of(form, store):
    """Tell the VIEW, gone through as point [4] says it."""
    given = dict(store)
    pairs = ()
    for name, kind, wish in form:
        if holds(pairs, wish) and name in given:
            pairs += ((name, given[name]),)
    return pairs


def spreads_of(kind):
    """Tell all RANGES of a small KIND."""
    if kind[0] == "number":
        numbers = range(kind[1], kind[2] + 1)
        return [(start, end) for start in numbers for end in numbers if start <= end]
    subsets = answers(("some", kind[1]))
    if kind[0] == "one":
        return [some for some in subsets if some]
    return [(within, without) for within in subsets for without in subsets if not set(within) & set(without)]


def boxes_of(form):
    """Tell all BOXES of a small FORM."""
    return [tuple(box) for box in itertools.product(*[spreads_of(question[1]) for question in form])]


def full_cases(form, box):
    """Write the CASES that split the BOX down to single WHOLE STORES."""
    for (name, kind, wish), spread in zip(form, box):
        rows = [("each", name)] if kind[0] == "one" else []
        if kind[0] == "number":
            rows = [("cut", name, number) for number in range(kind[1], kind[2] + 1)]
        if kind[0] == "some":
            rows = [("with", name, number) for number in range(kind[1])]
        for row in rows:
            if parts(form, box, row):
                return (row,) + tuple(inner for part in parts(form, box, row) for inner in full_cases(form, part))
    return (("leaf",),)


def random_kind(dice):
    """Make a small KIND."""
    sort = dice.choice(("one", "number", "some"))
    if sort == "number":
        low = dice.randint(-2, 1)
        return sort, low, low + dice.randint(0, 2)
    return sort, dice.randint(1, 3 if sort == "one" else 2)


def random_sentence(dice, kinds, depth, blocks=()):
    """Make a SENTENCE OF the KINDS with at most so many within it, and PIECES PARTS of the blocks."""
    words = ["all", "any"]
    if depth > 0:
        words += ["all", "any", "not", "least", "least"]
    for sort, some in (("one", ["is", "is"]), ("some", ["has", "has"])):
        if any(kind[0] == sort for name, kind in kinds):
            words += some
    if kinds:
        words += ["given"]
    word = dice.choice(words)
    if word == "given":
        return word, dice.choice(kinds)[0]
    if word in ("is", "has"):
        sort = "one" if word == "is" else "some"
        return word, dice.choice([name for name, kind in kinds if kind[0] == sort]), dice.randint(0, 3)
    if word == "least":
        return word, random_term(dice, kinds, depth - 1, blocks), dice.randint(-4, 4)
    if word == "not":
        return word, random_sentence(dice, kinds, depth - 1, blocks)
    many = dice.randint(0, 2) if depth > 0 else 0
    return word, tuple(random_sentence(dice, kinds, depth - 1, blocks) for turn in range(many))


def random_term(dice, kinds, depth, blocks=(), straight=None):
    """Make a TERM OF the KINDS, names straight in it of those that are told so."""
    straight = kinds if straight is None else straight
    parts = []
    for turn in range(dice.randint(0, 3)):
        if blocks and dice.random() < 0.5:
            block, body, seen = dice.choice(blocks)
            parts.append(("pieces", block, random_term(dice, seen, depth, (), body)))
            continue
        if not straight or depth > 0 and dice.random() < 0.3:
            parts.append(("where", random_sentence(dice, kinds, depth - 1, blocks), dice.randint(-3, 3)))
            continue
        name, kind = dice.choice(straight)
        if kind[0] == "number":
            parts.append(("times", name, dice.randint(-3, 3)))
        else:
            parts.append(("of", name, tuple(dice.randint(-3, 3) for turn in range(dice.randint(0, 3)))))
    return dice.randint(-3, 3), tuple(parts)


def random_form(dice, many):
    """Make a small FORM of so many QUESTIONS."""
    form = ()
    for name in "abcdefgh"[:many]:
        kinds = [question[:2] for question in form]
        form += ((name, random_kind(dice), random_sentence(dice, kinds, 3)),)
    return form


def lively_sentence(dice, kinds, depth, blocks=()):
    """Make a SENTENCE with names in it, where there are any."""
    sentence = random_sentence(dice, kinds, depth, blocks)
    while kinds and not names_in(sentence):
        sentence = random_sentence(dice, kinds, depth, blocks)
    return sentence


def lively_form(dice, many):
    """Make a small FORM of so many QUESTIONS, many of which SHOW."""
    form = ()
    for name in "abcdefgh"[:many]:
        kinds = [question[:2] for question in form]
        wish = lively_sentence(dice, kinds, 3) if kinds and dice.random() < 0.7 else TRUE
        form += ((name, random_kind(dice), wish),)
    return form


def seen_behind(fold):
    """Tell the KINDS that are ahead of an ITEM behind all others, and the blocks, as random_term takes both."""
    ahead, blocks = [], []
    for item in fold:
        ahead = ahead + [(item[0], ("number", 0, item[1]) if len(item) == 4 else item[1])]
        if len(item) == 4:
            body = [question[:2] for question in item[3]]
            blocks = blocks + [(item[0], body, ahead + body)]
    return ahead, blocks


def random_body(dice, ahead, names):
    """Make the QUESTIONS of a body."""
    body = ()
    for name in names:
        kinds = ahead + [question[:2] for question in body]
        wish = lively_sentence(dice, kinds, 2) if dice.random() < 0.7 else TRUE
        body += ((name, random_kind(dice), wish),)
    return body


def random_fold(dice, many):
    """Make a small FOLD of so many ITEMS, two BLOCKS among them at most."""
    fold = ()
    letters = list("abcdefghijklmnopqrstuvwxyz")
    for turn in range(many):
        name = letters.pop(0)
        ahead, blocks = seen_behind(fold)
        wish = lively_sentence(dice, ahead, 3, blocks) if fold and dice.random() < 0.7 else TRUE
        if len(blocks) < 2 and dice.random() < 0.5:
            most = dice.randint(1, 3)
            body = [letters.pop(0) for turn in range(dice.randint(0, 3))]
            fold += ((name, most, wish, random_body(dice, ahead + [(name, ("number", 0, most))], body)),)
        else:
            fold += ((name, random_kind(dice), wish),)
    return fold


def random_pairs(dice, questions):
    """Make pairs of some of the QUESTIONS."""
    return tuple((name, dice.choice(answers(kind))) for name, kind, wish in questions if dice.random() < 0.8)


def random_fold_store(dice, fold):
    """Make a FOLD STORE of the FOLD."""
    outer = random_pairs(dice, [item for item in fold if len(item) == 3])
    blocks = [item for item in fold if len(item) == 4]
    return outer, tuple(
        tuple(random_pairs(dice, block[3]) for turn in range(dice.randint(0, block[1]))) for block in blocks
    )


WIDE = ("number", -1000, 1000)


class Bars:
    """Gives out SENTENCES with bars on wide names, at most seven for each name, each the one "times" of its TERM."""

    def __init__(self, dice, wide):
        self.dice = dice
        self.left = {name: 7 for name in wide}

    def sentence(self, kinds, depth):
        """Make a SENTENCE OF the KINDS."""
        wide = [name for name, kind in kinds if self.left.get(name, 0) > 0]
        narrow = [(name, kind) for name, kind in kinds if name not in self.left]
        if wide and self.dice.random() < 0.6:
            name = self.dice.choice(wide)
            self.left[name] -= 1
            others = tuple(part for part in random_term(self.dice, narrow, depth)[1] if part[0] == "of")
            if depth > 0 and self.dice.random() < 0.5:
                others += (("where", self.sentence(kinds, depth - 1), self.dice.randint(-50, 50)),)
            part = ("times", name, self.dice.choice((-7, -2, -1, 1, 1, 2, 3, 7)))
            return "least", (self.dice.randint(-50, 50), others + (part,)), self.dice.randint(-900, 900)
        if depth > 0 and self.dice.random() < 0.7:
            word = self.dice.choice(("all", "any", "not"))
            if word == "not":
                return word, self.sentence(kinds, depth - 1)
            return word, tuple(self.sentence(kinds, depth - 1) for turn in range(2))
        return lively_sentence(self.dice, kinds if not wide else narrow, 0)


def random_wide_form(dice, bars, kinds):
    """Make a FORM of these KINDS with bars in its wishes."""
    return tuple((name, kind, bars.sentence(kinds[:at], 2) if at > 1 else TRUE) for at, (name, kind) in enumerate(kinds))


def some_stores(dice, form, many):
    """Tell some WHOLE STORES."""
    return [
        tuple((name, dice.randint(*kind[1:]) if kind[0] == "number" else dice.choice(answers(kind))) for name, kind, wish in form)
        for turn in range(many)
    ]


def barred_kinds(dice):
    """Make KINDS of a SMALL FORM with one or two wide names."""
    kinds = dice.choice((
        [WIDE, WIDE, ("one", 6)], [WIDE, ("one", 3), ("some", 2), ("one", 4)], [WIDE, ("some", 1), WIDE, ("one", 3)],
        [("one", 2), WIDE, ("number", 0, 7), ("one", 3)], [("number", -4, 3), ("number", 10, 50), ("one", 6)],
        [("number", 0, 8), ("number", 0, 9), ("one", 5)],
    ))
    return list(zip("abcd", kinds))


def nudged(dice, sentence):
    """Write the SENTENCE with bars that may lie one off."""
    if sentence[0] == "least":
        return sentence[0], sentence[1], sentence[2] + dice.choice((-1, 0, 0, 1))
    if sentence[0] == "not":
        return sentence[0], nudged(dice, sentence[1])
    if sentence[0] in ("all", "any"):
        return sentence[0], tuple(nudged(dice, one) for one in sentence[1])
    return sentence
