"""The desk: a place at which a book is made, deed by deed."""

from onewayread.books import book
from onewayread.checks import check_signs, is_number, is_word
from onewayread.errors import InvalidWord, LimitExceeded, NothingLeft, NotOneWay, ReadError, UnknownWord
from onewayread.readers import check_plain, standings
from onewayread.rests import one_way
from onewayread.texts import shorter_first

MOST_WORDS = 12


def next_word(a_book):
    """The first text, shorter first, with which a plain book stays plain, or None if it is full."""
    told = {arc[1]: True for arc in a_book.arcs}
    known = standings(a_book)
    begun = {standing: True for standing in known}
    # The first one begins with no word, and so with some standing, which it leaves by its last sign.
    longer = [standing + sign for standing in known for sign in a_book.signs]
    free = [text for text in longer if text not in told and text not in begun]
    return shorter_first(free)[0] if free else None


class Desk:
    """Signs, and words that are put, dropped and turned; each deed can be taken back."""

    def __init__(self, signs):
        check_signs(signs)
        self.signs = signs
        # Each change makes a new list: so those behind and ahead are kept as they were.
        self._words = []
        self._past = []
        self._future = []

    def __len__(self):
        return len(self._words)

    def __getitem__(self, at):
        self._check_place(at)
        return self._words[at]

    def __contains__(self, x):
        return isinstance(x, str) and x in self._words

    def __iter__(self):
        raise TypeError("a desk is not iterated over")

    def __eq__(self, other):
        return isinstance(other, Desk) and self.signs == other.signs and self._words == other._words

    def _check_place(self, at):
        if not is_number(at, 0, len(self._words) - 1):
            raise UnknownWord()

    def _check_word(self, word):
        if not is_word(self.signs, word):
            raise InvalidWord()

    def _check_put(self, word):
        self._check_word(word)
        if len(self._words) == MOST_WORDS:
            raise LimitExceeded(MOST_WORDS)

    def _change(self, words):
        """Does a deed, behind which the desk has these words."""
        self._past.append(self._words)
        self._words = words
        self._future = []

    def book(self):
        """The book of the words."""
        if len(self._words) == 0:
            raise NothingLeft("book")
        return book(self.signs, self._words)

    def put(self, word):
        """Puts a word at the end."""
        self._check_put(word)
        self._change([*self._words, word])

    def drop(self, at):
        """Takes the word at a place away."""
        self._check_place(at)
        self._change([*self._words[:at], *self._words[at + 1:]])

    def turn(self, at, word):
        """Puts another word in the place of one."""
        self._check_place(at)
        self._check_word(word)
        self._change([*self._words[:at], word, *self._words[at + 1:]])

    def put_one_way(self, word):
        """Puts a word at the end if the book is one-way with it."""
        self._check_put(word)
        if not one_way(book(self.signs, [*self._words, word])):
            raise NotOneWay()
        self._change([*self._words, word])

    def fill(self):
        """Puts the first texts with which a plain book stays plain, until it is full or has twelve words."""
        a_book = self.book()
        check_plain(a_book)
        words = list(self._words)
        word = next_word(a_book)
        while word is not None and len(words) < MOST_WORDS:
            words.append(word)
            word = next_word(book(self.signs, words))
        self._change(words)

    def undo(self):
        """Takes the last deed back that is not taken back."""
        if len(self._past) == 0:
            raise NothingLeft("undo")
        self._future.append(self._words)
        self._words = self._past.pop()

    def redo(self):
        """Does the deed again that was taken back last."""
        if len(self._future) == 0:
            raise NothingLeft("redo")
        self._past.append(self._words)
        self._words = self._future.pop()

    def attempt(self, deeds):
        """Does several deeds, or none of them if one raises an error."""
        words, past, future = self._words, list(self._past), list(self._future)
        try:
            for deed in deeds:
                self._do(deed)
        except ReadError:
            self._words, self._past, self._future = words, past, future
            raise

    def _do(self, deed):
        name = deed[0]
        if name == "put":
            self.put(deed[1])
        elif name == "drop":
            self.drop(deed[1])
        elif name == "turn":
            self.turn(deed[1], deed[2])
        elif name == "put_one_way":
            self.put_one_way(deed[1])
        elif name == "attempt":
            self.attempt(deed[1])
        elif name == "fill":
            self.fill()
        elif name == "undo":
            self.undo()
        else:
            self.redo()

    def twin(self):
        """A new desk with the same words and no history."""
        made = Desk(self.signs)
        made._words = self._words
        return made
