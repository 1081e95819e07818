"""[32]: texts that are not within a book, and full books."""

import random
import unittest
from fractions import Fraction

from onewayread.books import barred, book, is_full, sum_of, words
from onewayread.errors import LimitExceeded, NotABook
from onewayread.rests import one_way

from tests.helpers import TimedCase, check_error
from tests.plain_books import NO_BOOKS, plain_barred, plain_within, some_book, some_plain_words, texts_up_to


class Barred(TimedCase):
    def check(self, signs, told, text):
        made = book(signs, told)
        self.assertEqual(barred(made), text)
        self.assertIs(is_full(made), text is None)

    def test_full_books(self):
        self.check("ab", ["aa", "ab", "b"], None)
        self.check("a", ["a" * 12], None)
        self.check("ab", ["a", "b"], None)
        self.check("abcd", ["d", "c", "b", "a"], None)
        self.check("ab", ["a", "ab", "b", "bb"], None)
        self.check("ab", ["a", "ab", "bb"], None)

    def test_barred_texts(self):
        self.check("ab", ["aa", "b"], "bab")
        self.check("ab", ["a"], "b")
        self.check("ab", ["b"], "a")
        self.check("abc", ["a", "b"], "c")
        self.check("ab", ["ab"], "aa")
        self.check("ab", ["ba"], "aa")
        self.check("abcd", ["abcd", "a"], "ac")
        self.check("ab", ["ab" * 6], "aa")

    def test_shorter_first_then_ascending(self):
        self.check("ab", ["bb", "ba", "ab"], "aaa")
        self.check("ab", ["a", "bb"], "aba")
        self.check("ab", ["ab", "ba"], "aaa")
        self.check("ab", ["aaa", "b"], "bab")

    def test_equal_words(self):
        self.check("ab", ["aa", "aa", "b", "b"], "bab")
        self.check("ab", ["a", "b", "b", "a"], None)

    def test_within_across_words(self):
        # Neither aa nor bb stands in a word, but in two words.
        self.check("ab", ["aba", "b"], "aaa")
        self.check("ab", ["ab", "ab", "aab"], "bb")
        self.check("ab", ["ab", "b"], "aa")
        # Over several words, the middle ones whole.
        self.check("ab", ["aab", "b", "abb"], "aaa")
        self.check("ab", ["ab", "ba", "bb", "aaa"], plain_barred("ab", ["ab", "ba", "bb", "aaa"], 8))

    def test_twenty_four_signs_and_one_more(self):
        self.check("ab", ["a" * 12, "b" * 12], plain_barred("ab", ["a" * 12, "b" * 12], 5))
        self.check("a", ["a"] * 24, None)
        self.check("ab", ["a"] * 23 + ["b"], None)
        for told in [["a" * 12, "b" * 12, "a"], ["a"] * 25, ["a"] * 24 + ["b"], ["a"] * 200, ["ab"] * 12 + ["b"]]:
            check_error(self, LimitExceeded, [24], barred, book("ab", told))
            check_error(self, LimitExceeded, [24], is_full, book("ab", told))

    def test_looms_that_are_no_books(self):
        for loom in NO_BOOKS:
            check_error(self, NotABook, [], barred, loom)
            check_error(self, NotABook, [], is_full, loom)

    def test_against_a_search_over_all_short_texts(self):
        chance = random.Random(320)
        seen = {}
        for _ in range(500):
            made = some_book(chance)
            text = barred(made)
            self.assertIs(is_full(made), text is None)
            if text is None:
                self.assertIsNone(plain_barred(made.signs, words(made), 6))
            elif len(text) <= 7:
                self.assertEqual(plain_barred(made.signs, words(made), len(text)), text, words(made))
            seen[None if text is None else len(text)] = seen.get(None if text is None else len(text), 0) + 1
        for length in [None, 1, 2, 3, 4]:
            self.assertGreater(seen.get(length, 0), 5, seen)

    def test_long_barred_texts(self):
        told = ["bb", "aaa", "abbb", "aab", "baa", "ba", "abab", "bba"]
        text = barred(book("ab", told))
        self.assertEqual(len(text), 15)
        self.assertIs(plain_within(told, text), False)
        self.assertIs(plain_within(told, text[1:]), True)
        self.assertIs(plain_within(told, text[:-1]), True)


class Facts(TimedCase):
    def test_a_full_book_has_a_sum_of_one_or_more(self):
        chance = random.Random(321)
        seen = 0
        for _ in range(400):
            made = some_book(chance, longest=3, many=7)
            if is_full(made):
                self.assertGreaterEqual(Fraction(*sum_of(made)), 1)
                seen += 1
        self.assertGreater(seen, 50)

    def test_a_one_way_book_is_full_exactly_if_its_sum_is_one(self):
        chance = random.Random(322)
        seen = {True: 0, False: 0}
        for _ in range(400):
            signs = chance.choice(["ab", "abc"])
            told = some_plain_words(chance, signs, 8, chance.random() < 0.5, longest=3)
            if chance.random() < 0.3:
                told = [word[::-1] for word in told]
            made = book(signs, told)
            if sum(len(word) for word in told) <= 24:
                self.assertIs(one_way(made), True)
                self.assertIs(is_full(made), sum_of(made) == (1, 1))
                seen[is_full(made)] += 1
        self.assertGreater(min(seen.values()), 30)

    def test_no_word_can_be_put_to_a_full_one_way_book(self):
        for told in [["aa", "ab", "b"], ["a", "b"], ["a", "ba", "bb"], ["aa", "ba", "b"]]:
            for text in texts_up_to("ab", 6)[1:]:
                self.assertIs(one_way(book("ab", told + [text])), False)
        for told in [["aa", "b"], ["ab"], ["a", "bb"], ["ab", "aab", "bab"]]:
            more = [text for text in texts_up_to("ab", 6)[1:] if one_way(book("ab", told + [text]))]
            self.assertNotEqual(more, [])


if __name__ == "__main__":
    unittest.main()
