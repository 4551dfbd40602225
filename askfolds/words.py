"""The words of a text, taken one by one, and what a word alone writes."""

from askfolds.errors import NoText
from askfolds.kinds import FIGURES, is_name, is_rising_below

MOST_FIGURES = 12
# Above each NUMBER of so many figures, as the order of an ANSWER is looked at below a bound.
OVER_ALL = 1000000000000


class Words:
    """The words of the text of one row; at is the place of the next one."""

    def __init__(self, row, text):
        self.row = row
        self.words = text.split(" ")
        self.at = 0

    def ahead(self):
        """Tell the next word; behind all the one without signs, which can stand nowhere."""
        return self.words[self.at] if self.at < len(self.words) else ""

    def is_done(self):
        """Tell whether all words are taken."""
        return self.at == len(self.words)

    def passed(self, thing):
        """Tell the thing that the next word writes, and go on behind it; None is refused."""
        if thing is None:
            raise NoText(self.row, self.at)
        self.at += 1
        return thing

    def take_word(self, allowed):
        """Take one of the allowed words."""
        return self.passed(self.ahead() if self.ahead() in allowed else None)

    def take_name(self):
        """Take a NAME."""
        return self.passed(read_name(self.ahead()))

    def take_number(self):
        """Take any NUMBER."""
        return self.passed(read_figures(self.ahead()))

    def take_number_from(self, low):
        """Take a NUMBER that is low or more."""
        return self.passed(at_least(low, read_figures(self.ahead())))

    def take_answer(self):
        """Take an ANSWER."""
        return self.passed(read_choice(self.ahead()))

    def take_pair(self):
        """Take a pair (name, answer)."""
        return self.passed(read_pair(self.ahead()))

    def take_spot(self):
        """Take a SPOT."""
        return self.passed(read_place(self.ahead()))

    def ended(self, thing):
        """Tell the thing that all words wrote; a word behind it is refused."""
        if not self.is_done():
            raise NoText(self.row, self.at)
        return thing


def read_name(word):
    """Tell the NAME that the word writes, or None."""
    return word if is_name(word) else None


def read_figures(word):
    """Tell the NUMBER that the word writes, or None."""
    figures = word[1:] if word.startswith("-") else word
    if not 1 <= len(figures) <= MOST_FIGURES or not all(sign in FIGURES for sign in figures):
        return None
    if figures.startswith("0") and word != "0":
        return None
    return int(word)


def at_least(low, number):
    """Tell the number, or None where it is below low, or None itself."""
    return None if number is None or number < low else number


def read_choice(word):
    """Tell the ANSWER that the word writes, or None."""
    if not word.startswith("/"):
        return read_figures(word)
    if word == "/":
        return ()
    chosen = tuple(read_figures(figures) for figures in word[1:].split("/"))
    return chosen if is_rising_below(OVER_ALL, chosen) else None


def read_pair(word):
    """Tell the pair that the word NAME=ANSWER writes, or None."""
    name, sign, answer = word.partition("=")
    chosen = read_choice(answer)
    return (name, chosen) if is_name(name) and chosen is not None else None


def read_place(word):
    """Tell the SPOT that the word writes, or None."""
    name, sign, figures = word.partition(".")
    if not is_name(name) or sign == "":
        return read_name(word)
    place = at_least(0, read_figures(figures))
    return None if place is None else (name, place)
