"""[51] and [52]: the least prices of one-way books, of books of short words, and of plain books in order."""

import copy
import random
import unittest

from onewayread.books import words
from onewayread.errors import InvalidLoom, InvalidNumber, InvalidWeights
from onewayread.looms import Loom
from onewayread.prices import cheapest, cheapest_book, cheapest_in_order, cheapest_within, price
from onewayread.readers import is_plain

from tests.helpers import TimedCase, all_kinds, check_error, no_sequences, no_signs
from tests.plain_books import plain_cheapest, plain_cheapest_in_order


def within_twelve(signs, weights):
    return cheapest_within(signs, weights, 12)


FUNCTIONS = [cheapest, cheapest_book, cheapest_in_order, within_twelve]


def some_weights(chance, many):
    return [chance.choice([0, 0, 1, 1, 2, 3, 5, 8, 13, 100, 999, 1000, chance.randint(0, 1000)]) for _ in range(many)]


class Cheapest(TimedCase):
    def test_prices(self):
        self.assertEqual(cheapest("ab", [5, 1, 1, 5]), 21)
        self.assertEqual(cheapest("ab", [1, 1, 1, 1]), 8)
        self.assertEqual(cheapest("ab", [1, 2, 4, 8]), 25)
        self.assertEqual(cheapest("abc", [1, 2, 4, 8]), 18)
        self.assertEqual(cheapest("abcd", [1, 2, 4, 8]), 15)
        self.assertEqual(cheapest("abc", [3, 7]), 10)

    def test_one_weight_takes_a_word_of_one_sign(self):
        for signs in ["a", "ab", "abcd"]:
            for weight in [0, 1, 1000]:
                self.assertEqual(cheapest(signs, [weight]), weight)
                self.assertEqual(cheapest_in_order(signs, [weight]), weight)
                self.assertEqual(cheapest_within(signs, [weight], 1), weight)
                self.assertEqual(words(cheapest_book(signs, [weight])), [signs[0]])

    def test_one_sign_and_several_weights(self):
        for weights in [[3, 4], [0, 0], [1] * 8]:
            self.assertIsNone(cheapest("a", weights))
            self.assertIsNone(cheapest_book("a", weights))
            self.assertIsNone(cheapest_in_order("a", weights))
            self.assertIsNone(cheapest_within("a", weights, 12))

    def test_weights_of_nothing_count_as_words(self):
        self.assertEqual(cheapest("ab", [0, 0]), 0)
        self.assertEqual(cheapest("ab", [5, 0, 0]), 5)
        self.assertEqual(cheapest("ab", [5, 7, 0]), 17)
        self.assertEqual(cheapest_in_order("ab", [5, 0, 7]), 17)
        self.assertEqual(cheapest_within("ab", [5, 7, 0], 1), None)

    def test_eight_weights(self):
        self.assertEqual(cheapest("ab", [1000] * 8), 24000)
        self.assertEqual(cheapest("ab", [1, 2, 4, 8, 16, 32, 64, 128]), 3 + 7 + 15 + 31 + 63 + 127 + 255)
        self.assertEqual(cheapest_within("ab", [1, 2, 4, 8, 16, 32, 64, 128], 7), 501)
        self.assertEqual(cheapest_within("ab", [1, 2, 4, 8, 16, 32, 64, 128], 3), 765)
        self.assertEqual(cheapest_in_order("ab", [1, 2, 4, 8, 16, 32, 64, 128]), 501)
        self.assertEqual(cheapest_in_order("abcd", [1000] * 8), 14000)

    def test_against_all_lengths(self):
        chance = random.Random(52)
        for _ in range(250):
            signs = chance.choice(["a", "ab", "ab", "abc", "wxyz"])
            weights = some_weights(chance, chance.randint(1, 5))
            told = plain_cheapest(signs, weights, max(1, len(weights) - 1))
            self.assertEqual(cheapest(signs, weights), told, (signs, weights))
            for most in range(1, 4):
                self.assertEqual(cheapest_within(signs, weights, most), plain_cheapest(signs, weights, most))

    def test_some_of_six_weights(self):
        chance = random.Random(53)
        for _ in range(4):
            weights = some_weights(chance, 6)
            self.assertEqual(cheapest("ab", weights), plain_cheapest("ab", weights, 5))

    def test_the_book_has_the_price(self):
        chance = random.Random(54)
        for _ in range(300):
            signs = chance.choice(["a", "ab", "ab", "abc", "wxyz"])
            weights = some_weights(chance, chance.randint(1, 8))
            told, made = cheapest(signs, weights), cheapest_book(signs, weights)
            self.assertIs(made is None, told is None)
            if made is not None:
                self.assertIsInstance(made, Loom)
                self.assertEqual([made.signs, is_plain(made), price(made, weights)], [signs, True, told])

    def test_in_any_order_of_the_weights(self):
        chance = random.Random(55)
        for _ in range(100):
            weights = some_weights(chance, chance.randint(2, 8))
            self.assertEqual(cheapest("ab", weights), cheapest("ab", sorted(weights)))
            self.assertEqual(cheapest_within("ab", weights, 4), cheapest_within("ab", sorted(weights), 4))
            self.assertEqual(cheapest_in_order("abc", weights), cheapest_in_order("abc", weights[::-1]))


class Within(TimedCase):
    def test_prices(self):
        self.assertEqual(cheapest_within("ab", [5, 1, 1, 5], 2), 24)
        self.assertEqual(cheapest_within("ab", [5, 1, 1, 5], 3), 21)
        self.assertEqual(cheapest_within("ab", [5, 1, 1, 5], 12), 21)

    def test_none_where_words_are_too_short(self):
        self.assertIsNone(cheapest_within("ab", [1, 1, 1], 1))
        self.assertIsNone(cheapest_within("ab", [1] * 5, 2))
        self.assertEqual(cheapest_within("ab", [1] * 4, 2), 8)
        self.assertIsNone(cheapest_within("abcd", [0] * 5, 1))
        self.assertEqual(cheapest_within("abcd", [0] * 4, 1), 0)
        self.assertEqual(cheapest_within("ab", [1] * 8, 3), 24)
        self.assertIsNone(cheapest_within("ab", [1] * 8, 2))

    def test_more_signs_are_never_dearer(self):
        chance = random.Random(56)
        for _ in range(100):
            weights = some_weights(chance, chance.randint(1, 8))
            told = [cheapest_within("ab", weights, most) for most in range(1, 13)]
            prices = [cost for cost in told if cost is not None]
            self.assertEqual(prices, sorted(prices, reverse=True))
            self.assertEqual(told, [None] * (12 - len(prices)) + prices)
            self.assertEqual(told[-1], cheapest("ab", weights))

    def test_what_is_no_number(self):
        for value in all_kinds() + [13, 12.0, "1"]:
            if not (isinstance(value, int) and not isinstance(value, bool) and 1 <= value <= 12):
                check_error(self, InvalidNumber, [], cheapest_within, "ab", [1], value)
                check_error(self, InvalidNumber, [], cheapest_within, "a", (3, 4), value)


class InOrder(TimedCase):
    def test_prices(self):
        self.assertEqual(cheapest_in_order("ab", [1, 5, 5, 1]), 24)
        self.assertEqual(cheapest_in_order("ab", [5, 1, 1, 5]), 5 + 3 + 3 + 10)
        self.assertEqual(cheapest_in_order("ab", [1, 1]), 2)
        self.assertEqual(cheapest_in_order("ab", [9, 1, 9]), 9 + 2 * 10)
        self.assertEqual(cheapest_in_order("abc", [9, 1, 9]), 19)
        self.assertEqual(cheapest_in_order("abc", [1, 9, 9, 1]), 9 + 1 + 2 * 10)

    def test_against_all_plain_lists_of_ascending_words(self):
        chance = random.Random(57)
        for many, signs, times in [(1, "ab", 5), (2, "ab", 10), (3, "ab", 30), (4, "ab", 40), (5, "ab", 2),
                                   (2, "abc", 5), (3, "abc", 20), (4, "abc", 1), (3, "abcd", 20), (2, "a", 3)]:
            for _ in range(times):
                weights = some_weights(chance, many)
                told = plain_cheapest_in_order(signs, weights, max(1, many - 1))
                self.assertEqual(cheapest_in_order(signs, weights), told, (signs, weights))

    def test_cheapest_is_at_most_either(self):
        chance = random.Random(58)
        unlike = 0
        for _ in range(200):
            signs = chance.choice(["ab", "abc", "abcd"])
            weights = some_weights(chance, chance.randint(1, 8))
            least = cheapest(signs, weights)
            self.assertLessEqual(least, cheapest_in_order(signs, weights))
            unlike += least < cheapest_in_order(signs, weights)
            for most in range(1, 13):
                told = cheapest_within(signs, weights, most)
                self.assertTrue(told is None or least <= told)
        self.assertGreater(unlike, 20)


class WrongArguments(TimedCase):
    def test_what_are_no_signs(self):
        for signs in no_signs():
            for function in FUNCTIONS:
                for weights in [[1], [], [-1], None]:
                    check_error(self, InvalidLoom, ["signs", -1], function, signs, weights)
            check_error(self, InvalidLoom, ["signs", -1], cheapest_within, signs, [], 0)

    def test_what_are_no_weights(self):
        for function in FUNCTIONS:
            for value in [*no_sequences(), [], (), [1] * 9, (1,) * 9, [None] * 9]:
                check_error(self, InvalidWeights, [-1], function, "ab", value)

    def test_the_first_wrong_weight_is_told(self):
        for function in FUNCTIONS:
            for value in all_kinds() + [1001, 1000.0, "1"]:
                if not (isinstance(value, int) and not isinstance(value, bool) and 0 <= value <= 1000):
                    check_error(self, InvalidWeights, [0], function, "ab", [value])
                    check_error(self, InvalidWeights, [1], function, "a", (0, value, -1))
                    check_error(self, InvalidWeights, [7], function, "abc", [1000] * 7 + [value])

    def test_weights_come_ahead_of_the_number(self):
        for most in [0, 13, None, True, 1.0]:
            check_error(self, InvalidWeights, [-1], cheapest_within, "ab", [], most)
            check_error(self, InvalidWeights, [1], cheapest_within, "ab", [1, 1001], most)
            check_error(self, InvalidNumber, [], cheapest_within, "ab", [1, 1000], most)

    def test_lists_and_tuples_that_stay_as_they_were(self):
        for function in FUNCTIONS:
            weights = [5, 0, 3, 1000, 3]
            kept = copy.deepcopy(weights)
            answer = function("ab", weights)
            self.assertEqual(weights, kept)
            self.assertEqual(function("ab", tuple(weights)), answer)


if __name__ == "__main__":
    unittest.main()
