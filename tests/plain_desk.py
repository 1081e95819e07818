"""A plain model of the desk: all that its words have been, and where in this line it stands."""

import copy
import itertools

from onewayread.errors import InvalidWord, LimitExceeded, NothingLeft, NotOneWay, NotPlain, UnknownWord
from onewayread.looms import Loom

from tests.plain_books import plain_is_plain, plain_sum
from tests.plain_rests import plain_rests
from tests.plain_search import some_word


def plain_one_way(signs, words):
    return (0, 0, "") not in plain_rests(Loom(signs, [(0, word, 0) for word in words]))


def plain_fill(signs, words):
    """The words of a plain book behind fill."""
    words = list(words)
    while plain_sum(signs, [len(word) for word in words]) < 1 and len(words) < 12:
        texts = ("".join(text) for many in range(1, 13) for text in itertools.product(signs, repeat=many))
        words.append(next(text for text in texts if plain_is_plain([*words, text])))
    return words


class PlainDesk:
    def __init__(self, signs):
        self.signs = signs
        self.line = [[]]
        self.at = 0

    def words(self):
        return self.line[self.at]

    def change(self, words):
        self.line = [*self.line[:self.at + 1], words]
        self.at += 1

    def do(self, deed):
        """Does a deed; returns None, or the error's class and its attributes."""
        return getattr(self, "do_" + deed[0])(*deed[1:])

    def wrong_word(self, word):
        return word.__class__ is not str or not 1 <= len(word) <= 12 or not set(word) <= set(self.signs)

    def wrong_place(self, at):
        return at.__class__ is not int or not 0 <= at < len(self.words())

    def do_put(self, word, only_one_way=False):
        if self.wrong_word(word):
            return InvalidWord, []
        if len(self.words()) >= 12:
            return LimitExceeded, [12]
        if only_one_way and not plain_one_way(self.signs, [*self.words(), word]):
            return NotOneWay, []
        return self.change([*self.words(), word])

    def do_put_one_way(self, word):
        return self.do_put(word, True)

    def do_drop(self, at):
        if self.wrong_place(at):
            return UnknownWord, []
        return self.change([word for place, word in enumerate(self.words()) if place != at])

    def do_turn(self, at, word):
        if self.wrong_place(at):
            return UnknownWord, []
        if self.wrong_word(word):
            return InvalidWord, []
        return self.change([word if place == at else other for place, other in enumerate(self.words())])

    def do_fill(self):
        if not self.words():
            return NothingLeft, ["book"]
        if not plain_is_plain(self.words()):
            return NotPlain, []
        return self.change(plain_fill(self.signs, self.words()))

    def do_undo(self):
        if self.at == 0:
            return NothingLeft, ["undo"]
        self.at -= 1
        return None

    def do_redo(self):
        if self.at == len(self.line) - 1:
            return NothingLeft, ["redo"]
        self.at += 1
        return None

    def do_attempt(self, deeds):
        kept = copy.deepcopy((self.line, self.at))
        for deed in deeds:
            wrong = self.do(deed)
            if wrong is not None:
                self.line, self.at = kept
                return wrong
        return None


def some_deed(chance, signs, depth):
    """A deed that often can be done; attempts are nested at most so deep."""
    word = some_word(chance, signs, 4) if chance.random() < 0.93 else chance.choice(["", "A", "a" * 13, "?", None, 0])
    at = chance.randint(0, 4) if chance.random() < 0.93 else chance.choice([-1, 12, None, "0", True])
    kinds = [("put", word)] * 6 + [("put_one_way", word)] * 3 + [("undo",)] * 4 + [("redo",)] * 2
    kinds += [("drop", at), ("drop", 0), ("turn", at, word), ("fill",)]
    if depth > 0 and chance.random() < 0.3:
        deeds = [some_deed(chance, signs, depth - 1) for _ in range(chance.randint(0, 4))]
        return ("attempt", chance.choice([list, tuple])(deeds))
    return chance.choice(kinds)
