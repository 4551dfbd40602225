"""The refusals. Each keeps the very things that it was made of."""


class FoldError(ValueError):
    """Any refusal; itself never raised."""


class NoPaper(FoldError):
    """A paper is not let by."""

    def __init__(self, word, number):
        self.word = word
        self.number = number


class NoFilling(FoldError):
    """There is no such filling."""

    def __init__(self, word):
        self.word = word


class NoName(FoldError):
    """There is no such name."""

    def __init__(self, name):
        self.name = name


class NoAnswer(FoldError):
    """An answer cannot be given or put away."""

    def __init__(self, word):
        self.word = word


class NoChange(FoldError):
    """A form or a fold cannot be changed so."""

    def __init__(self, word):
        self.word = word


class NoOrder(FoldError):
    """Names, or the kinds of two forms, do not fit together."""

    def __init__(self, word):
        self.word = word


class NoPiece(FoldError):
    """A piece cannot come, go or be moved."""

    def __init__(self, word):
        self.word = word


class NoStep(FoldError):
    """There is no deed to take back."""

    def __init__(self):
        pass


class NoText(FoldError):
    """A text does not write what it is read as."""

    def __init__(self, row, word):
        self.row = row
        self.word = word


class NoRow(FoldError):
    """A desk knows no such row."""

    def __init__(self, row):
        self.row = row
