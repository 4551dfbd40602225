"""A keeper of a fold that is filled, changed and taken back."""

from askfolds.errors import NoAnswer, NoName, NoPiece, NoStep
from askfolds.foldchanges import fold_changed, fold_led
from askfolds.folds import spot_answers
from askfolds.foldstores import is_asked_spot, kind_at, with_answer, without_answer
from askfolds.foldviews import fold_aside, fold_holds, fold_opened, fold_shown, fold_value
from askfolds.kinds import is_answer
from askfolds.pieces import entry_of, piece_in, piece_moved, piece_out


class Keeper:
    """Keeps a FOLD and a FOLD STORE of it, and what both were ahead of each deed that isn't taken back."""

    def __init__(self, fold, store):
        self.now = (fold, store)
        self.before = []

    def answer(self, spot, thing):
        """Give an answer to a SPOT."""
        fold, store = self.now
        if not is_asked_spot(fold, store, spot):
            raise NoName(spot)
        if spot not in fold_shown(fold, store):
            raise NoAnswer("hidden")
        if not is_answer(kind_at(fold, spot), thing):
            raise NoAnswer("kind")
        return self.done(fold, with_answer(fold, store, spot, thing))

    def away(self, spot):
        """Put the answer of a SPOT away."""
        fold, store = self.now
        if not is_asked_spot(fold, store, spot):
            raise NoName(spot)
        if spot not in spot_answers(fold, store):
            raise NoAnswer("none")
        return self.done(fold, without_answer(fold, store, spot))

    def piece_in(self, block, place):
        """Let a PIECE come."""
        fold, store = self.now
        look_at_block(fold, store, block)
        return self.done(fold, piece_in(fold, store, block, place))

    def piece_out(self, block, place):
        """Let a PIECE go."""
        fold, store = self.now
        look_at_block(fold, store, block)
        return self.done(fold, piece_out(fold, store, block, place))

    def piece_moved(self, block, one, other):
        """Move a PIECE."""
        fold, store = self.now
        look_at_block(fold, store, block)
        return self.done(fold, piece_moved(fold, store, block, one, other))

    def change(self, thing):
        """Change the FOLD, and lead its FOLD STORE into the new one."""
        fold, store = self.now
        newer = fold_changed(fold, thing)
        kept, lost = fold_led(fold, newer, store)
        came, went = self.done(newer, kept)
        return came, went, lost

    def back(self):
        """Take the last deed back that isn't taken back yet."""
        if not self.before:
            raise NoStep()
        fold, store = self.before.pop()
        return self.turned(fold, store)

    def done(self, fold, store):
        """Tell what came and went by a deed behind which there are this FOLD and FOLD STORE."""
        self.before.append(self.now)
        return self.turned(fold, store)

    def turned(self, fold, store):
        """Keep this FOLD and FOLD STORE from now on, and tell what came and went."""
        elder = self.shown()
        self.now = (fold, store)
        newer = self.shown()
        came = tuple(spot for spot in newer if spot not in elder)
        return came, tuple(spot for spot in elder if spot not in newer)

    def fold(self):
        """Tell the FOLD."""
        return self.now[0]

    def store(self):
        """Tell the FOLD STORE."""
        return self.now[1]

    def shown(self):
        """Tell the SPOTS that SHOW."""
        return fold_shown(self.fold(), self.store())

    def opened(self):
        """Tell the SPOTS that are OPEN."""
        return fold_opened(self.fold(), self.store())

    def aside(self):
        """Tell what is ASIDE."""
        return fold_aside(self.fold(), self.store())

    def value(self, term):
        """Tell what the FOLD TERM comes to."""
        return fold_value(self.fold(), self.store(), term)

    def holds(self, sentence):
        """Tell whether the FOLD SENTENCE holds."""
        return fold_holds(self.fold(), self.store(), sentence)


def look_at_block(fold, store, block):
    """Look whether it is the name of a BLOCK, and whether that SHOWS."""
    entry_of(fold, block)
    if block not in fold_shown(fold, store):
        raise NoPiece("hidden")
