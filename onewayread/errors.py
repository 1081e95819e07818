"""The errors of the program: all of them stand directly below ReadError."""


class ReadError(Exception):
    """What every error of this program is."""


class InvalidLoom(ReadError):
    """The signs or the arcs, words or lengths of a loom are wrong."""

    def __init__(self, part, at):
        self.part = part
        self.at = at


class UnknownState(ReadError):
    """A state is none."""


class InvalidRow(ReadError):
    """A row does not fit at an item, or is none at all (-1)."""

    def __init__(self, at):
        self.at = at


class InvalidText(ReadError):
    """A text is none over the signs."""


class Stuck(ReadError):
    """No row covers what a reader would have taken."""


class NotABook(ReadError):
    """A loom is no book."""


class NotPlain(ReadError):
    """A book is not plain."""


class NotFull(ReadError):
    """A book is not full."""


class NotOneWay(ReadError):
    """A book is not one-way."""


class NotAWire(ReadError):
    """A loom is no wire."""


class Unlike(ReadError):
    """Two looms do not go together."""


class InvalidLengths(ReadError):
    """Lengths are wrong at an item, or are none at all (-1)."""

    def __init__(self, at):
        self.at = at


class InvalidWeights(ReadError):
    """Weights are wrong at an item, or are none at all (-1)."""

    def __init__(self, at):
        self.at = at


class InvalidNumber(ReadError):
    """A number is not one that may stand there."""


class InvalidBars(ReadError):
    """Bars are wrong at an item, or are none at all (-1)."""

    def __init__(self, at):
        self.at = at


class InvalidChoice(ReadError):
    """Choices are wrong at an item, or are none at all (-1)."""

    def __init__(self, at):
        self.at = at


class InvalidPage(ReadError):
    """A written text is wrong in a line, counted from 1 on, or is none (0)."""

    def __init__(self, line):
        self.line = line


class UnknownWord(ReadError):
    """There is no word with this place."""


class InvalidWord(ReadError):
    """A word is none over the signs."""


class LimitExceeded(ReadError):
    """An answer would go beyond a limit."""

    def __init__(self, limit):
        self.limit = limit


class NothingLeft(ReadError):
    """Nothing is left to be told, made, or taken back."""

    def __init__(self, word):
        self.word = word
