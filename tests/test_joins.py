"""[33] and [34]: bases, texts of two books, and books in books."""

import random
import unittest

from onewayread.books import book, is_full, sum_of, words
from onewayread.errors import LimitExceeded, NotABook, NotOneWay, Unlike
from onewayread.joins import apart, base, joined, same_texts
from onewayread.rests import one_way

from tests.helpers import TimedCase, check_error, check_new_list
from tests.plain_books import NO_BOOKS, plain_written, some_book, some_plain_words, texts_up_to
from tests.plain_search import some_word

BOOK = book("ab", ["aa", "b"])


class Base(TimedCase):
    def test_words_that_are_no_two_words(self):
        self.assertEqual(base(book("ab", ["ab", "a", "aab", "b", "a"])), ["a", "b"])
        self.assertEqual(base(book("ab", ["ab", "a", "aab"])), ["a", "ab"])
        self.assertEqual(base(book("a", ["aaaaa", "aa", "aaa"])), ["aa", "aaa"])
        self.assertEqual(base(book("a", ["a" * 12, "a" * 11, "a" * 10])), ["a" * 10, "a" * 11, "a" * 12])
        self.assertEqual(base(book("a", ["a" * 12, "aaa"])), ["aaa"])

    def test_shorter_first_then_ascending(self):
        self.assertEqual(base(book("ab", ["bb", "aba", "ba", "bab", "aa"])), ["aa", "ba", "bb", "aba", "bab"])

    def test_one_word_and_equal_words(self):
        self.assertEqual(base(book("ab", ["abab"])), ["abab"])
        self.assertEqual(base(book("ab", ["b", "a", "b", "a", "b"])), ["a", "b"])
        self.assertEqual(base(book("a", ["a" * 12] * 200)), ["a" * 12])

    def test_words_by_many_words(self):
        self.assertEqual(base(book("ab", ["ababab", "ab", "abab", "aba"])), ["ab", "aba"])
        self.assertEqual(base(book("ab", ["a", "b"] + texts_up_to("ab", 6)[1:])), ["a", "b"])

    def test_against_all_readings(self):
        chance = random.Random(33)
        for _ in range(500):
            made = some_book(chance, longest=5, many=8)
            told = [word for word in sorted(set(words(made))) if not plain_written(words(made), word, 2)]
            self.assertEqual(base(made), sorted(told, key=len))
            short = [text for text in texts_up_to(made.signs, 5) if len(text) <= 5]
            for text in short[:60]:
                self.assertEqual(plain_written(base(made), text), plain_written(words(made), text))

    def test_the_base_of_a_one_way_book(self):
        chance = random.Random(34)
        seen = 0
        for _ in range(400):
            made = some_book(chance)
            if one_way(made):
                self.assertEqual(base(made), sorted(words(made), key=lambda word: (len(word), word)))
                seen += 1
        self.assertGreater(seen, 80)

    def test_the_greatest_books(self):
        chance = random.Random(35)
        for signs in ["ab", "abcd"]:
            told = [some_word(chance, signs, 12) for _ in range(200)]
            found = [word for word in sorted(set(told)) if not plain_written(told, word, 2)]
            self.assertEqual(base(book(signs, told)), sorted(found, key=len))

    def test_wrong_books_and_new_lists(self):
        for loom in NO_BOOKS:
            check_error(self, NotABook, [], base, loom)
        check_new_list(self, base, BOOK)


class SameTexts(TimedCase):
    def check(self, one, other, text):
        made, beside = book("ab", one), book("ab", other)
        self.assertEqual(same_texts(made, beside), text)
        self.assertEqual(same_texts(beside, made), text)

    def test_the_first_text_of_just_one(self):
        self.check(["a", "ab"], ["a", "aab"], "ab")
        self.check(["a"], ["b"], "a")
        self.check(["aa"], ["aaa"], "aa")
        self.check(["aa", "aaa"], ["aa"], "aaa")
        self.check(["bb", "aaa"], ["aaa", "ba"], "ba")
        self.check(["b", "aaa"], ["b", "aab"], "aaa")

    def test_none(self):
        self.check(["a"], ["a"], None)
        self.check(["a", "b"], ["b", "a", "a"], None)
        self.check(["a", "b"], ["b", "ab", "a", "bbab"], None)
        self.check(["aa", "aaa"], ["aaa", "aaaa", "aa", "aaaaa"], None)

    def test_a_word_that_both_have_by_unlike_readings(self):
        self.check(["ab", "a", "b"], ["a", "b"], None)
        self.check(["ab", "a"], ["a", "aab", "ab"], None)
        self.check(["aba", "b"], ["ab", "aba", "b"], "ab")

    def test_against_all_short_texts(self):
        chance = random.Random(330)
        seen = {True: 0, False: 0}
        for _ in range(600):
            signs = chance.choice(["a", "ab", "abc"])
            one, other = [[some_word(chance, signs, 4) for _ in range(chance.randint(1, 5))] for _ in range(2)]
            if chance.random() < 0.4:
                other = one + [word + chance.choice(one) for word in chance.sample(one, min(2, len(one)))]
                chance.shuffle(other)
            text = same_texts(book(signs, one), book(signs, other))
            unlike = (text for text in texts_up_to(signs, 5) if plain_written(one, text) != plain_written(other, text))
            told = next(unlike, None)
            if text is None or len(text) <= 5:
                self.assertEqual(text, told, (one, other))
            else:
                self.assertIsNone(told)
                self.assertNotEqual(plain_written(one, text), plain_written(other, text))
            bases = base(book(signs, one)), base(book(signs, other))
            self.assertIs(text is None, bases[0] == bases[1])
            self.assertIn(text, [None, *bases[0], *bases[1]])
            seen[text is None] += 1
        self.assertGreater(min(seen.values()), 50)

    def test_errors_in_their_order(self):
        for loom in NO_BOOKS:
            for other in [BOOK, book("abc", ["a"]), *NO_BOOKS]:
                check_error(self, NotABook, [], same_texts, loom, other)
                check_error(self, NotABook, [], same_texts, other, loom)
        for signs in ["a", "ac", "abc"]:
            check_error(self, Unlike, [], same_texts, BOOK, book(signs, ["a"]))
            check_error(self, Unlike, [], same_texts, book(signs, ["a"]), BOOK)


class Joined(TimedCase):
    def test_words_in_the_place_of_signs(self):
        self.assertEqual(joined(BOOK, book("xy", ["xy", "y"])), book("ab", ["aab", "b"]))
        self.assertEqual(joined(book("ab", ["ab", "ba", "b"]), book("bcz", ["zcb", "c", "c"])),
                         book("ab", ["bbaab", "ba", "ba"]))
        self.assertEqual(joined(book("xy", ["y"]), book("a", ["aaa", "a"])), book("xy", ["yyy", "y"]))

    def test_equal_words(self):
        self.assertEqual(joined(book("ab", ["a", "a"]), book("ab", ["ab", "ba"])), book("ab", ["aa", "aa"]))

    def test_one_to_four_words(self):
        for many in range(1, 5):
            inner = book("ab", ["aa", "ab", "ba", "bb"][:many])
            outer = book("wxyz"[:many], ["wxyz"[:many]])
            self.assertEqual(words(joined(inner, outer)), ["".join(words(inner))])

    def test_words_of_twelve_signs_and_one_more(self):
        self.assertEqual(words(joined(book("ab", ["abab", "b"]), book("ab", ["aaa", "a"]))), ["abab" * 3, "abab"])
        self.assertEqual(words(joined(book("a", ["a"]), book("a", ["a" * 12]))), ["a" * 12])
        for outer in [["aaab"], ["a", "aaab", "b"], ["aaaa"], ["b" * 9 + "a"]]:
            check_error(self, LimitExceeded, [12], joined, book("ab", ["abab", "b"]), book("ab", outer))
        check_error(self, LimitExceeded, [12], joined, book("a", ["a" * 12]), book("a", ["aa"]))
        many = ["b"] * 199
        check_error(self, LimitExceeded, [12], joined, book("ab", ["abab", "b"]), book("ab", many + ["aaab"]))

    def test_errors_in_their_order(self):
        for loom in NO_BOOKS:
            for other in [BOOK, book("a", ["a" * 12]), *NO_BOOKS]:
                check_error(self, NotABook, [], joined, loom, other)
                check_error(self, NotABook, [], joined, other, loom)
        for outer in [book("a", ["a"]), book("abc", ["a"]), book("abc", ["a" * 12]), book("a", ["a" * 12])]:
            check_error(self, Unlike, [], joined, BOOK, outer)
        for many in [5, 200]:
            for signs in ["a", "ab", "abc", "abcd"]:
                check_error(self, Unlike, [], joined, book("a", ["a"] * many), book(signs, ["a"]))

    def test_of_one_way_and_of_full_books(self):
        chance = random.Random(340)
        seen = 0
        for _ in range(300):
            inner = book("ab", some_plain_words(chance, "ab", 4, chance.random() < 0.5, longest=3))
            letters = "pqrs"[:len(inner.arcs)]
            full = chance.random() < 0.5
            outer = book(letters, some_plain_words(chance, letters, 5, full, longest=3))
            made = joined(inner, outer)
            self.assertIs(one_way(made), True)
            if sum_of(inner) == sum_of(outer) == (1, 1) and sum(len(word) for word in words(made)) <= 24:
                self.assertIs(is_full(made), True)
                seen += 1
        self.assertGreater(seen, 20)


class Apart(TimedCase):
    def test_the_outer_book(self):
        made = book("ab", ["aab", "b"])
        self.assertEqual(apart(made, BOOK), book("ab", ["ab", "b"]))
        self.assertEqual(joined(BOOK, apart(made, BOOK)), made)
        inner = book("xy", ["yx", "x", "yy"])
        self.assertEqual(apart(book("xy", ["xxyx", "yx"]), inner), book("abc", ["bba", "a"]))

    def test_none(self):
        for told in [["a"], ["aab", "ba"], ["aaa"], ["b", "b", "ab"]]:
            self.assertIsNone(apart(book("ab", told), BOOK))

    def test_letters_that_stand_in_no_word(self):
        inner = book("ab", ["aa", "ab", "ba", "bb"])
        self.assertEqual(apart(book("ab", ["abab"]), inner), book("abcd", ["bb"]))
        self.assertEqual(apart(book("ab", ["bb", "aa"]), inner), book("abcd", ["d", "a"]))

    def test_one_to_four_words(self):
        for many in range(1, 5):
            inner = book("yz", ["zz", "zy", "yz", "yyy"][:many])
            for word in words(inner):
                outer = apart(book("yz", [word, "zz"]), inner)
                self.assertEqual(outer, book("abcd"[:many], ["abcd"[words(inner).index(word)], "a"]))

    def test_a_book_apart_from_itself(self):
        self.assertEqual(apart(BOOK, BOOK), book("ab", ["a", "b"]))
        self.assertEqual(apart(book("a", ["a" * 12]), book("a", ["a"])), book("a", ["a" * 12]))

    def test_the_book_need_not_be_one_way(self):
        self.assertEqual(apart(book("ab", ["aa", "aa", "aaaa"]), BOOK), book("ab", ["a", "a", "aa"]))
        self.assertEqual(len(apart(book("ab", ["b"] * 200), BOOK).arcs), 200)

    def test_errors_in_their_order(self):
        one_way_five = book("ab", ["aaa", "aab", "aba", "abb", "baa"])
        for loom in NO_BOOKS:
            for other in [BOOK, book("abc", ["a", "a"]), one_way_five, *NO_BOOKS]:
                check_error(self, NotABook, [], apart, loom, other)
                check_error(self, NotABook, [], apart, other, loom)
        for inner in [["a"], ["a", "a"], ["c", "a", "b", "aa", "bb"]]:
            check_error(self, Unlike, [], apart, BOOK, book("abc", inner))
        for inner in [["a", "a"], ["a", "ab", "ba"], ["a"] * 5, ["aa", "aaa", "b", "ab", "ba"]]:
            check_error(self, NotOneWay, [], apart, BOOK, book("ab", inner))
        check_error(self, LimitExceeded, [4], apart, BOOK, one_way_five)
        check_error(self, LimitExceeded, [4], apart, book("ab", ["b"]), one_way_five)

    def test_apart_from_what_was_joined(self):
        chance = random.Random(341)
        seen = {True: 0, False: 0}
        for _ in range(500):
            inner = some_book(chance, longest=3, many=4)
            outer = book("abcd"[:len(inner.arcs)], [some_word(chance, "abcd"[:len(inner.arcs)], 4) for _ in range(3)])
            made = joined(inner, outer)
            if one_way(inner):
                self.assertEqual(apart(made, inner), outer)
            else:
                check_error(self, NotOneWay, [], apart, made, inner)
            seen[one_way(inner)] += 1
        self.assertGreater(min(seen.values()), 50)

    def test_against_all_outer_words(self):
        inner = book("ab", ["ab", "a", "bb"])
        outers = [book("abc", [text]) for text in texts_up_to("abc", 5)[1:]]
        made = {words(joined(inner, outer))[0]: outer for outer in outers}
        for text in texts_up_to("ab", 5)[1:]:
            self.assertEqual(apart(book("ab", [text]), inner), made.get(text))


class Arguments(TimedCase):
    def test_books_are_as_they_were(self):
        one, other, outer = book("ab", ["aab", "b"]), book("ab", ["aa", "b"]), book("xy", ["xy", "y"])
        base(one), same_texts(one, other), joined(other, outer), apart(one, other)
        self.assertEqual([one, other], [book("ab", ["aab", "b"]), book("ab", ["aa", "b"])])
        self.assertEqual(outer, book("xy", ["xy", "y"]))


if __name__ == "__main__":
    unittest.main()
