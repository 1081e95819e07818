"""Books: looms whose arcs all lead from 0 to 0, their sums, and texts that stand in nothing they write."""

from math import gcd

from onewayread.checks import LONGEST_WORD, check_signs, is_sequence
from onewayread.errors import InvalidLoom, LimitExceeded, NotABook
from onewayread.looms import MOST_ARCS, Loom
from onewayread.texts import first_text

# So many signs the words of a book may have together, for barred.
MOST_SIGNS_TOGETHER = 24


def book(signs, words):
    """The book with these words, in their order."""
    check_signs(signs)
    if not is_sequence(words, 1, MOST_ARCS):
        raise InvalidLoom("arcs", -1)
    return Loom(signs, [(0, word, 0) for word in words])


def is_book(thing):
    """Tells whether something is a loom that is a book."""
    return isinstance(thing, Loom) and all([arc[0] == 0 and arc[2] == 0 for arc in thing.arcs])


def check_book(a_book):
    """Raises NotABook for a loom that is none."""
    if not is_book(a_book):
        raise NotABook()


def words(a_book):
    """The list of the words of a book."""
    check_book(a_book)
    return [arc[1] for arc in a_book.arcs]


def sum_of(a_book):
    """The sum of 1 divided by the number of texts of a word's length, over all words, as (p, q)."""
    lengths = [len(word) for word in words(a_book)]
    top = 0
    bottom = 1
    for length in range(1, LONGEST_WORD + 1):
        top = top * len(a_book.signs) + lengths.count(length)
        bottom = bottom * len(a_book.signs)
    shared = gcd(top, bottom)
    return top // shared, bottom // shared


def places_behind(told, places, sign):
    """The places to which a sign leads from places; each place is what is left of a word there."""
    found = {}
    for place in places:
        # Behind a word any word may begin.
        lefts = told if place == "" else [place]
        for left in lefts:
            if left[0] == sign:
                found[left[1:]] = True
    return tuple(sorted(found))


def barred(a_book):
    """The first text, shorter first, that stands in no text with a reading, or None if there is none."""
    told = words(a_book)
    if sum([len(word) for word in told]) > MOST_SIGNS_TOGETHER:
        raise LimitExceeded(MOST_SIGNS_TOGETHER)
    # A text may begin at all places of words. It is not within the book if none is left behind it.
    begun = tuple(sorted({word[at:] for word in told for at in range(1, len(word) + 1)}))
    return first_text(a_book.signs, begun, lambda places, sign: places_behind(told, places, sign),
                      lambda places: len(places) == 0)


def is_full(a_book):
    """Tells whether all texts are within a book."""
    return barred(a_book) is None
