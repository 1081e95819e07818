"""[40] and [41]: plain books, their standings, and how a reader goes on."""

import random
import unittest

from onewayread.books import book, words
from onewayread.errors import InvalidText, NotABook, NotPlain, UnknownState
from onewayread.looks import look
from onewayread.readers import go, is_plain, standings
from onewayread.rests import one_way
from onewayread.rows import readings

from tests.helpers import TimedCase, all_kinds, check_error, check_new_list, no_texts
from tests.plain_books import NO_BOOKS, plain_go, plain_is_plain, plain_standings, some_book, some_plain_words, \
    texts_up_to

PLAIN = book("ab", ["b", "aa", "ab"])
NOT_PLAIN = [book("ab", ["a", "ab"]), book("ab", ["ba", "a", "b"]), book("ab", ["a", "a"]), book("a", ["aa"] * 200)]


class Plain(TimedCase):
    def test_plain_books(self):
        long = ["a" * 12, "a" * 11 + "b"]
        for told in [["a"], ["a" * 12], ["b", "aa", "ab"], ["ab", "ba"], long, ["bab", "ab", "aab"]]:
            self.assertIs(is_plain(book("ab", told)), True)

    def test_a_word_that_begins_with_another_one(self):
        for told in [["a", "ab"], ["ab", "a"], ["b", "ab", "aba"], ["aab", "b", "ab", "aa"], ["a" * 12, "a"]]:
            self.assertIs(is_plain(book("ab", told)), False)

    def test_equal_words(self):
        for told in [["a", "a"], ["ab", "b", "ab"], ["b"] * 200]:
            self.assertIs(is_plain(book("ab", told)), False)

    def test_against_a_plain_search(self):
        chance = random.Random(40)
        seen = {True: 0, False: 0}
        for _ in range(800):
            made = some_book(chance, longest=4)
            self.assertIs(is_plain(made), plain_is_plain(words(made)))
            seen[is_plain(made)] += 1
            # Plain books are one-way, and those with look 0.
            self.assertIs(is_plain(made), look(made) == 0)
            if is_plain(made):
                self.assertIs(one_way(made), True)
        self.assertGreater(min(seen.values()), 100)

    def test_two_hundred_words(self):
        chance = random.Random(400)
        told = some_plain_words(chance, "ab", 200, True)
        self.assertIs(is_plain(book("ab", told)), True)
        self.assertEqual(len(told), 200)
        for at in [1, 100, 199]:
            self.assertIs(is_plain(book("ab", told[1:] + [told[at]])), False)
            self.assertIs(is_plain(book("ab", told[1:] + [told[at][:-1]])), False)

    def test_looms_that_are_no_books(self):
        for loom in NO_BOOKS:
            check_error(self, NotABook, [], is_plain, loom)


class Standings(TimedCase):
    def test_beginnings_shorter_first(self):
        self.assertEqual(standings(PLAIN), ["", "a"])
        self.assertEqual(standings(book("ab", ["a"])), [""])
        self.assertEqual(standings(book("ab", ["bba", "abb", "aab"])), ["", "a", "b", "aa", "ab", "bb"])
        self.assertEqual(standings(book("a", ["a" * 12])), ["a" * many for many in range(12)])

    def test_each_once(self):
        self.assertEqual(standings(book("ab", ["aaa", "aab"])), ["", "a", "aa"])

    def test_against_all_beginnings(self):
        chance = random.Random(41)
        for signs in ["a", "ab", "abc", "abcd"] * 10:
            told = some_plain_words(chance, signs, chance.choice([10, 200]), chance.random() < 0.5)
            self.assertEqual(standings(book(signs, told)), plain_standings(told))

    def test_wrong_books_and_new_lists(self):
        for loom in NO_BOOKS:
            check_error(self, NotABook, [], standings, loom)
        for made in NOT_PLAIN:
            check_error(self, NotPlain, [], standings, made)
        check_new_list(self, standings, PLAIN)


class Go(TimedCase):
    def test_numbers_of_whole_words(self):
        self.assertEqual(go(PLAIN, "", "baab"), ("", [0, 1, 0]))
        self.assertEqual(go(PLAIN, "a", "baa"), ("", [2, 1]))
        self.assertEqual(go(PLAIN, "", "ba"), ("a", [0]))
        self.assertEqual(go(PLAIN, "a", "aa"), ("a", [1]))

    def test_the_empty_text(self):
        for standing in standings(PLAIN):
            self.assertEqual(go(PLAIN, standing, ""), (standing, []))

    def test_none_at_the_first_sign_that_fits_nothing(self):
        made = book("ab", ["aba", "bb"])
        self.assertIsNone(go(made, "", "aa"))
        self.assertIsNone(go(made, "ab", "b"))
        self.assertIsNone(go(made, "", "ba"))
        self.assertIsNone(go(made, "", "baaaa"))
        self.assertIsNone(go(made, "", "abaaa"))
        self.assertEqual(go(made, "ab", "ab"), ("b", [0]))

    def test_words_of_twelve_signs(self):
        made = book("ab", ["a" * 12, "b"])
        self.assertEqual(go(made, "a" * 11, "a" * 13 + ""), ("", [0, 0]))
        self.assertEqual(go(made, "", "a" * 11), ("a" * 11, []))
        self.assertIsNone(go(made, "a" * 11, "b"))

    def test_two_thousand_signs(self):
        self.assertEqual(go(PLAIN, "", "b" * 2000), ("", [0] * 2000))
        self.assertEqual(go(PLAIN, "a", "ba" * 1000), ("a", [2] + [2] * 999))
        check_error(self, InvalidText, [], go, PLAIN, "", "b" * 2001)

    def test_against_a_plain_search(self):
        chance = random.Random(410)
        seen = {True: 0, False: 0}
        for _ in range(60):
            signs = chance.choice(["a", "ab", "abc"])
            told = some_plain_words(chance, signs, 8, chance.random() < 0.4, longest=4)
            made = book(signs, told)
            for standing in standings(made):
                for text in texts_up_to(signs, 4)[:60]:
                    answer = go(made, standing, text)
                    self.assertEqual(answer and answer[0], plain_go(told, standing, text))
                    if answer is not None:
                        self.assertEqual("".join(told[number] for number in answer[1]) + answer[0], standing + text)
                    seen[answer is None] += 1
        self.assertGreater(min(seen.values()), 100)

    def test_from_the_empty_standing_the_numbers_are_a_reading(self):
        for text in texts_up_to("ab", 8):
            standing, numbers = go(PLAIN, "", text)
            self.assertEqual(readings(PLAIN, 0, text), [numbers] if standing == "" else [])

    def test_the_list_is_new_on_each_call(self):
        first = go(PLAIN, "", "baab")
        first[1].append("spoilt")
        self.assertEqual(go(PLAIN, "", "baab"), ("", [0, 1, 0]))

    def test_what_is_no_standing(self):
        for value in all_kinds():
            if not (isinstance(value, str) and value in ["", "a"]):
                check_error(self, UnknownState, [], go, PLAIN, value, "b")
        for standing in ["b", "aa", "ab", "aab", "A", " ", "a\n", "c", "a" * 13, ["a"], ("",), None, 0, b"a"]:
            check_error(self, UnknownState, [], go, PLAIN, standing, "b")
        check_error(self, UnknownState, [], go, book("ab", ["b"]), "a", "b")

    def test_what_is_no_text(self):
        for value in no_texts("ab"):
            check_error(self, InvalidText, [], go, PLAIN, "a", value)
        for text in ["c", "abc", "A", "a b", "a\n", "ab" * 1000 + "a"]:
            check_error(self, InvalidText, [], go, PLAIN, "", text)
        check_error(self, InvalidText, [], go, book("ac", ["a"]), "", "b")

    def test_errors_in_their_order(self):
        for standing in ["", "x", None, 0]:
            for text in ["a", "x", None, "a" * 2001]:
                for loom in NO_BOOKS:
                    check_error(self, NotABook, [], go, loom, standing, text)
                for made in NOT_PLAIN:
                    check_error(self, NotPlain, [], go, made, standing, text)
        for text in ["x", None, "a" * 2001, 0]:
            check_error(self, UnknownState, [], go, PLAIN, "b", text)
            check_error(self, UnknownState, [], go, PLAIN, None, text)
            check_error(self, InvalidText, [], go, PLAIN, "a", text)


if __name__ == "__main__":
    unittest.main()
