"""Books and the texts that they write: bases, and books whose words are written in words of other books."""

from onewayread.books import book, check_book, words
from onewayread.checks import LONGEST_WORD, MOST_SIGNS
from onewayread.errors import LimitExceeded, NotOneWay, Unlike
from onewayread.rests import one_way
from onewayread.rows import readings
from onewayread.texts import shorter_first

LETTERS = "abcd"


def check_alike(one, other):
    """Raises NotABook for a loom that is no book, and Unlike for two books over unlike signs."""
    check_book(one)
    check_book(other)
    if one.signs != other.signs:
        raise Unlike()


def is_written(told, text):
    """Tells whether a text can be written in words."""
    reached = {0: True}
    for at in range(len(text)):
        if at in reached:
            for word in told:
                if text.startswith(word, at):
                    reached[at + len(word)] = True
    return len(text) in reached


def base(a_book):
    """The list, shorter first, of the words that are not written in two or more words of the book."""
    told = words(a_book)
    found = []
    for word in sorted(set(told)):
        # Of two or more words each one is shorter than the whole.
        shorter = [part for part in told if len(part) < len(word)]
        if not is_written(shorter, word):
            found.append(word)
    return shorter_first(found)


def same_texts(one, other):
    """The first text, shorter first, that has a reading in just one of two books, or None."""
    check_alike(one, other)
    told = [word for word in base(one) if not is_written(words(other), word)]
    beside = [word for word in base(other) if not is_written(words(one), word)]
    found = shorter_first(told + beside)
    return found[0] if found else None


def joined(a_book, outer):
    """The book with the words of outer, a word of the first book in the place of each sign."""
    told = words(a_book)
    check_book(outer)
    if len(outer.signs) != len(told):
        raise Unlike()
    made = ["".join([told[outer.signs.index(sign)] for sign in word]) for word in words(outer)]
    if max([len(word) for word in made]) > LONGEST_WORD:
        raise LimitExceeded(LONGEST_WORD)
    return book(a_book.signs, made)


def apart(a_book, inner):
    """The book outer with which joined(inner, outer) is the book, or None if there is none."""
    check_alike(a_book, inner)
    if not one_way(inner):
        raise NotOneWay()
    if len(inner.arcs) > MOST_SIGNS:
        raise LimitExceeded(MOST_SIGNS)
    signs = LETTERS[:len(inner.arcs)]
    made = []
    for word in words(a_book):
        # The inner book is one-way: there is one row at most.
        rows = readings(inner, 0, word)
        if len(rows) == 0:
            return None
        made.append("".join([signs[number] for number in rows[0]]))
    return book(signs, made)
