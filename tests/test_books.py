"""[30] and [31]: books, their words and their sums."""

import random
import unittest
from fractions import Fraction

from onewayread.books import book, is_book, sum_of, words
from onewayread.errors import InvalidLoom, NotABook
from onewayread.looms import Loom
from onewayread.rests import one_way

from tests.helpers import TimedCase, all_kinds, check_error, check_new_list, is_string_over, no_sequences, no_signs
from tests.plain_books import NO_BOOKS, plain_sum, some_book, some_plain_words


class Book(TimedCase):
    def check(self, part, at, signs, told):
        kept = list(told) if isinstance(told, list) else []
        check_error(self, InvalidLoom, [part, at], book, signs, told)
        for one, other in zip(told if isinstance(told, list) else [], kept, strict=True):
            self.assertIs(one, other)

    def test_arcs_and_words(self):
        for told in [["a"], ["ab", "b"], ["b", "a", "ab"], ["a" * 12], ["a", "a", "a"]]:
            made = book("ab", told)
            self.assertEqual(made, Loom("ab", [(0, word, 0) for word in told]))
            self.assertEqual(made, book("ab", tuple(told)))
            self.assertEqual(words(made), told)
            self.assertIs(is_book(made), True)

    def test_equal_words_stand_several_times(self):
        self.assertEqual(words(book("ab", ["ab", "a", "ab"])), ["ab", "a", "ab"])

    def test_one_to_four_signs(self):
        for signs in ["a", "xz", "abc", "bcyz"]:
            self.assertEqual(book(signs, [signs]).signs, signs)

    def test_two_hundred_words_and_one_more(self):
        self.assertEqual(words(book("a", ["a"] * 200)), ["a"] * 200)
        self.check("arcs", -1, "a", ["a"] * 201)
        self.check("arcs", -1, "a", ("a",) * 201)
        self.check("arcs", -1, "a", [None] * 201)

    def test_the_list_is_not_kept(self):
        told = ["a", "b"]
        made = book("ab", told)
        told.append("ab")
        self.assertEqual(words(made), ["a", "b"])

    def test_what_are_no_signs(self):
        for signs in no_signs():
            self.check("signs", -1, signs, ["a"])
            self.check("signs", -1, signs, [])
            self.check("signs", -1, signs, [None])

    def test_what_are_no_words(self):
        for value in no_sequences():
            self.check("arcs", -1, "ab", value)
        for value in [[], (), "ab", {"a": 1}, {"a"}, iter(["a"])]:
            self.check("arcs", -1, "ab", value)

    def test_the_first_wrong_word_is_told(self):
        for value in all_kinds():
            if not is_string_over("ab", value, 1, 12):
                self.check("arcs", 0, "ab", [value])
                self.check("arcs", 0, "ab", (value, "a"))
                self.check("arcs", 2, "ab", ["a", "b", value, None])
        for word in ["", "c", "ac", "A", "a ", "a\n", "a" * 13, "b" * 2000]:
            self.check("arcs", 1, "ab", ["a", word, "b"])
        self.check("arcs", 199, "ab", ["a"] * 199 + ["c"])
        self.check("arcs", 0, "ac", ["b"])

    def test_words_of_twelve_signs(self):
        self.assertEqual(words(book("ab", ["ab" * 6])), ["ab" * 6])
        self.check("arcs", 0, "ab", ["ab" * 6 + "a"])

    def test_words_are_a_new_list_on_each_call(self):
        check_new_list(self, words, book("ab", ["a", "b", "a"]))


class IsBook(TimedCase):
    def test_looms(self):
        self.assertIs(is_book(Loom("ab", [(0, "a", 0), (0, "a", 0)])), True)
        for loom in NO_BOOKS:
            self.assertIs(is_book(loom), False)
            check_error(self, NotABook, [], words, loom)
            check_error(self, NotABook, [], sum_of, loom)

    def test_things_of_all_kinds(self):
        for value in all_kinds():
            told = isinstance(value, Loom) and all(arc[0] == arc[2] == 0 for arc in value.arcs)
            self.assertIs(is_book(value), told)
        for thing in [["a"], ("ab", ["a"]), [(0, "a", 0)], Loom, None, "a", book]:
            self.assertIs(is_book(thing), False)


class Sum(TimedCase):
    def test_lowest_terms(self):
        self.assertEqual(sum_of(book("ab", ["aa", "ab", "b"])), (1, 1))
        self.assertEqual(sum_of(book("ab", ["aa", "ab"])), (1, 2))
        self.assertEqual(sum_of(book("ab", ["a", "b", "ab"])), (5, 4))
        self.assertEqual(sum_of(book("abc", ["a", "ab"])), (4, 9))
        self.assertEqual(sum_of(book("abcd", ["a", "bb", "bb"])), (3, 8))

    def test_one_sign(self):
        self.assertEqual(sum_of(book("a", ["a"])), (1, 1))
        self.assertEqual(sum_of(book("a", ["a" * 12, "a", "aaa"])), (3, 1))
        self.assertEqual(sum_of(book("a", ["a"] * 200)), (200, 1))

    def test_long_words(self):
        self.assertEqual(sum_of(book("ab", ["a" * 12])), (1, 4096))
        self.assertEqual(sum_of(book("abcd", ["a" * 12] * 3)), (3, 4 ** 12))
        self.assertEqual(sum_of(book("abcd", ["abcdabcdabcd"] * 200)), (25, 4 ** 12 // 8))
        self.assertEqual(sum_of(book("ab", ["a"] * 200)), (100, 1))

    def test_kinds_and_terms_against_fractions(self):
        chance = random.Random(31)
        for _ in range(300):
            made = some_book(chance, longest=12, many=20)
            top, bottom = sum_of(made)
            self.assertEqual([top.__class__, bottom.__class__, sum_of(made).__class__], [int, int, tuple])
            told = plain_sum(made.signs, [len(word) for word in words(made)])
            self.assertEqual((top, bottom), (told.numerator, told.denominator))

    def test_one_way_books_have_a_sum_of_at_most_one(self):
        chance = random.Random(32)
        seen = 0
        for _ in range(600):
            made = some_book(chance)
            if one_way(made):
                self.assertLessEqual(Fraction(*sum_of(made)), 1)
                seen += 1
        self.assertGreater(seen, 100)
        for signs in ["ab", "abc"]:
            self.assertEqual(sum_of(book(signs, some_plain_words(chance, signs, 200, True))), (1, 1))


if __name__ == "__main__":
    unittest.main()
