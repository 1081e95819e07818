"""Slow and plain searches over texts, words and books, to compare the program with."""

import itertools
from fractions import Fraction

from onewayread.books import book
from onewayread.looms import Loom

from tests.plain_search import some_word

NO_BOOKS = [
    Loom("ab", [(0, "a", 1)]), Loom("ab", [(1, "a", 1), (1, "b", 1)]), Loom("ab", [(0, "a", 0), (0, "b", 63)]),
    Loom("ab", [(0, "a", 0), (5, "b", 0)]), Loom("a", [(0, "a", 0)] * 199 + [(1, "a", 0)]),
]


def texts_up_to(signs, length):
    """All texts of at most so many signs, shorter first."""
    return ["".join(text) for many in range(length + 1) for text in itertools.product(signs, repeat=many)]


def plain_written(words, text, fewest=0):
    """Tells whether a text is so many or more words, one behind the other."""
    if text == "":
        return fewest <= 0
    return any(text.startswith(word) and plain_written(words, text[len(word):], fewest - 1) for word in set(words))


def plain_within(words, text):
    """Tells whether a text stands in a word, or is an end of one, words, and a beginning of one."""
    if any(text in word for word in words):
        return True
    ends = {word[at:] for word in words for at in range(1, len(word) + 1)}
    beginnings = {word[:at] for word in words for at in range(len(word))}
    for end in ends:
        for beginning in beginnings:
            middle = len(text) - len(end) - len(beginning)
            if middle >= 0 and text.startswith(end) and text.endswith(beginning):
                if plain_written(words, text[len(end):len(end) + middle]):
                    return True
    return False


def plain_barred(signs, words, length):
    """The first text of at most so many signs that is not within a book, or None."""
    return next((text for text in texts_up_to(signs, length) if not plain_within(words, text)), None)


def plain_is_plain(words):
    return not any(one != other and words[other].startswith(words[one])
                   for one in range(len(words)) for other in range(len(words)))


def plain_go(words, standing, text):
    """Where a reader of a plain book comes, or None."""
    whole = standing + text
    for at in range(1, len(whole) + 1):
        if whole[:at] in words:
            return plain_go(words, "", whole[at:])
    return whole if any(word.startswith(whole) for word in words) else None


def plain_standings(words):
    return sorted({word[:at] for word in words for at in range(len(word))}, key=lambda text: (len(text), text))


def plain_meeting(signs, words, length):
    """The first meeting text of at most so many signs, or None."""
    for text in texts_up_to(signs, length):
        if len({plain_go(words, standing, text) for standing in plain_standings(words)}) == 1:
            return text
    return None


def plain_pairs_behind(pair, signs, words):
    return {tuple(sorted(plain_go(words, standing, sign) for standing in pair)) for sign in signs}


def plain_never(signs, words):
    """The pairs that are left when those that meet are taken away, again and again."""
    pairs = set(itertools.combinations(sorted(plain_standings(words)), 2))
    while True:
        gone = {pair for pair in pairs if not plain_pairs_behind(pair, signs, words) <= pairs}
        if not gone:
            return sorted(pairs)
        pairs -= gone


def plain_sum(signs, lengths):
    return sum((Fraction(1, len(signs) ** length) for length in lengths), Fraction(0))


def plain_cheapest(signs, weights, most):
    """The least price over all lists of lengths up to so many signs whose sum is at most 1, or None."""
    prices = [sum(weight * length for weight, length in zip(weights, lengths))
              for lengths in itertools.product(range(1, most + 1), repeat=len(weights))
              if plain_sum(signs, lengths) <= 1]
    return min(prices, default=None)


def plain_cheapest_in_order(signs, weights, most):
    """The least price over all plain lists of ascending words of at most so many signs, or None."""
    order = sorted(texts_up_to(signs, most)[1:])
    prices = [sum(weight * len(word) for weight, word in zip(weights, words))
              for words in itertools.combinations(order, len(weights)) if plain_is_plain(words)]
    return min(prices, default=None)


def some_book(chance, longest=3, many=5):
    signs = chance.choice(["a", "ab", "ab", "ab", "abc", "xz"])
    return book(signs, [some_word(chance, signs, longest) for _ in range(chance.randint(1, many))])


def some_plain_words(chance, signs, many, full, longest=12):
    """Words of a tree of branches, at most so many; some of them are left out where it is not to be full.

    Where there may be 200 of them, there are nearly so many.
    """
    words = list(signs)
    for _ in range(3 * many if many == 200 else chance.randint(0, 3 * many)):
        word = chance.choice(words)
        if len(word) < longest and len(words) + len(signs) - 1 <= many:
            words.remove(word)
            words.extend(word + sign for sign in signs)
    chance.shuffle(words)
    return words if full else words[:max(1, len(words) - chance.randint(1, 3))]
