"""[50], and price of [51]: books of told lengths, and their prices."""

import copy
import random
import unittest

from onewayread.books import book, sum_of, words
from onewayread.errors import InvalidLengths, InvalidLoom, InvalidWeights, NotABook
from onewayread.prices import book_of_lengths, price
from onewayread.readers import is_plain
from onewayread.rests import one_way

from tests.helpers import TimedCase, all_kinds, check_error, no_sequences, no_signs
from tests.plain_books import NO_BOOKS, plain_sum, some_book, texts_up_to

BOOK = book("ab", ["b", "aa", "ab"])


def plain_book_of_lengths(signs, lengths):
    """The words that are chosen one by one among all texts of their lengths, or None."""
    made = {}
    for at in sorted(range(len(lengths)), key=lambda at: lengths[at]):
        free = [text for text in texts_up_to(signs, lengths[at]) if len(text) == lengths[at]
                and not any(text.startswith(word) for word in made.values())]
        if not free:
            return None
        made[at] = free[0]
    return [made[at] for at in range(len(lengths))]


def is_number(value, low, high):
    return isinstance(value, int) and not isinstance(value, bool) and low <= value <= high


class BookOfLengths(TimedCase):
    def check(self, signs, lengths, told):
        for thing in [list(lengths), tuple(lengths)]:
            made = book_of_lengths(signs, thing)
            self.assertEqual(made, None if told is None else book(signs, told))

    def test_words_in_the_order_of_the_lengths(self):
        self.check("ab", [3, 1, 2, 3], ["bba", "a", "ba", "bbb"])
        self.check("ab", [1, 2, 3, 3], ["a", "ba", "bba", "bbb"])
        self.check("ab", [3, 3, 2, 1], ["bba", "bbb", "ba", "a"])
        self.check("xyz", [2, 1, 2, 1, 2], ["zx", "x", "zy", "y", "zz"])
        self.check("ab", [2, 2], ["aa", "ab"])
        self.check("ab", [4, 2, 4], ["abaa", "aa", "abab"])

    def test_of_equal_lengths_the_earlier_first(self):
        self.check("ab", [2, 2, 2, 2], ["aa", "ab", "ba", "bb"])
        self.check("abcd", [1, 2, 1, 2], ["a", "ca", "b", "cb"])

    def test_none(self):
        for signs, lengths in [("ab", [1, 1, 1]), ("ab", [1, 2, 2, 2]), ("a", [1, 1]), ("a", [1, 2]), ("a", [12, 12]),
                               ("ab", [2] * 5), ("ab", [12, 1, 1]), ("abcd", [1] * 5), ("ab", [1, 2, 3, 4, 4, 12])]:
            self.check(signs, lengths, None)

    def test_one_sign(self):
        for length in range(1, 13):
            self.check("a", [length], ["a" * length])

    def test_one_length_and_twelve_lengths(self):
        self.check("ab", [12], ["a" * 12])
        self.check("ab", [12] * 12, texts_up_to("ab", 12)[-4096:][:12])
        self.check("abcd", [12, 1] * 6, None)
        self.check("ab", list(range(1, 12)) + [11], ["b" * at + "a" for at in range(11)] + ["b" * 11])
        self.check("ab", list(range(1, 13)), ["b" * at + "a" for at in range(12)])

    def test_against_a_choice_among_all_texts(self):
        chance = random.Random(50)
        seen = {True: 0, False: 0}
        for _ in range(400):
            signs = chance.choice(["a", "ab", "ab", "abc", "wxyz"])
            lengths = [chance.randint(1, chance.choice([2, 4, 5])) for _ in range(chance.randint(1, 8))]
            told = plain_book_of_lengths(signs, lengths)
            self.check(signs, lengths, told)
            # There is one exactly if the sum is at most 1.
            self.assertIs(told is not None, plain_sum(signs, lengths) <= 1)
            if told is not None:
                self.assertIs(is_plain(book(signs, told)), True)
            seen[told is None] += 1
        self.assertGreater(min(seen.values()), 80)

    def test_for_each_one_way_book_there_is_a_plain_one(self):
        chance = random.Random(51)
        many = 0
        for _ in range(400):
            made = some_book(chance)
            if one_way(made):
                told = book_of_lengths(made.signs, [len(word) for word in words(made)])
                self.assertEqual([len(word) for word in words(told)], [len(word) for word in words(made)])
                self.assertEqual(sum_of(told), sum_of(made))
                many += 1
        self.assertGreater(many, 100)

    def test_what_are_no_signs(self):
        for signs in no_signs():
            check_error(self, InvalidLoom, ["signs", -1], book_of_lengths, signs, [1])
            check_error(self, InvalidLoom, ["signs", -1], book_of_lengths, signs, [])
            check_error(self, InvalidLoom, ["signs", -1], book_of_lengths, signs, [0])

    def test_what_are_no_lengths(self):
        for value in [*no_sequences(), [], (), [1] * 13, (1,) * 13, [None] * 13, [12] * 2000]:
            check_error(self, InvalidLengths, [-1], book_of_lengths, "ab", value)

    def test_the_first_wrong_length_is_told(self):
        for value in all_kinds() + [13, 12.0, "1", b"1"]:
            if not is_number(value, 1, 12):
                check_error(self, InvalidLengths, [0], book_of_lengths, "ab", [value])
                check_error(self, InvalidLengths, [0], book_of_lengths, "ab", (value, 0))
                check_error(self, InvalidLengths, [2], book_of_lengths, "ab", [1, 12, value, 13])
        check_error(self, InvalidLengths, [11], book_of_lengths, "ab", [1] * 11 + [13])
        # What is wrong comes ahead of there being no such book.
        check_error(self, InvalidLengths, [3], book_of_lengths, "a", [1, 1, 1, 0])

    def test_lengths_are_as_they_were(self):
        for lengths in [[3, 1, 2, 3], [1, 1, 1], [2, 0, 1]]:
            kept = copy.deepcopy(lengths)
            if 0 in lengths:
                check_error(self, InvalidLengths, [1], book_of_lengths, "ab", lengths)
            else:
                book_of_lengths("ab", lengths)
            self.assertEqual(lengths, kept)


class Price(TimedCase):
    def test_prices(self):
        self.assertEqual(price(BOOK, [5, 1, 2]), 11)
        self.assertEqual(price(BOOK, (0, 0, 0)), 0)
        self.assertEqual(price(BOOK, (1000, 1000, 1000)), 5000)
        self.assertEqual(price(book("a", ["a" * 12]), [1000]), 12000)
        made = book("ab", ["a", "aa", "aa", "b", "ab", "b", "ba", "bbb"])
        self.assertEqual(price(made, [0, 1, 2, 3, 4, 5, 6, 7]), 55)

    def test_books_that_are_not_one_way(self):
        self.assertEqual(price(book("a", ["a", "a", "aaa"]), [1, 10, 100]), 311)

    def test_what_are_no_weights(self):
        for value in [*no_sequences(), [], (), [1] * 9, (1,) * 9, [None] * 9]:
            check_error(self, InvalidWeights, [-1], price, BOOK, value)

    def test_the_first_wrong_weight_is_told(self):
        for value in all_kinds() + [1001, 1000.0, "1"]:
            if not is_number(value, 0, 1000):
                check_error(self, InvalidWeights, [0], price, BOOK, [value])
                check_error(self, InvalidWeights, [1], price, BOOK, (0, value, -1))
                check_error(self, InvalidWeights, [7], price, BOOK, [1] * 7 + [value])

    def test_as_many_weights_as_words(self):
        for many in [1, 2, 4, 8]:
            check_error(self, InvalidWeights, [-1], price, BOOK, [1] * many)
        check_error(self, InvalidWeights, [-1], price, book("a", ["a"] * 9), [1] * 8)
        check_error(self, InvalidWeights, [-1], price, book("a", ["a"] * 9), [1] * 9)
        # A wrong item comes ahead of the number of weights.
        check_error(self, InvalidWeights, [1], price, BOOK, [1, -1])
        check_error(self, InvalidWeights, [4], price, BOOK, [1, 1, 1, 1, True])

    def test_errors_in_their_order(self):
        for loom in NO_BOOKS:
            for weights in [[1], [], None, [-1], [1] * 9]:
                check_error(self, NotABook, [], price, loom, weights)

    def test_weights_are_as_they_were(self):
        weights = [3, 1, 2]
        price(BOOK, weights)
        self.assertEqual(weights, [3, 1, 2])


if __name__ == "__main__":
    unittest.main()
