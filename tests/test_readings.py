"""[13] and sure of [14]: the rows that read a text, their number, and what is sure of those that cover it."""

import unittest

from onewayread.errors import InvalidText, LimitExceeded, UnknownState
from onewayread.looms import Loom
from onewayread.rows import count, readings, sure

from tests.helpers import TimedCase, check_error, check_new_list, no_states, no_texts

LOOM = Loom("ab", [(0, "a", 0), (0, "ab", 1), (1, "b", 0), (0, "bb", 0)])
# Very many rows begin a text of these words.
STEPS = Loom("ab", [(0, "a", 0), (0, "aa", 0)])
EQUAL = Loom("a", [(0, "a", 0)] * 200)


def fibonacci(length):
    one, other = 1, 1
    for _ in range(length):
        one, other = other, one + other
    return one


class Readings(TimedCase):
    def test_ordinary_texts(self):
        self.assertEqual(readings(LOOM, 0, "a"), [[0]])
        self.assertEqual(readings(LOOM, 0, "ab"), [[1]])
        self.assertEqual(readings(LOOM, 0, "abb"), [[0, 3], [1, 2]])
        self.assertEqual(readings(LOOM, 1, "b"), [[2]])
        self.assertEqual(readings(LOOM, 1, "bbb"), [[2, 3]])
        self.assertEqual(readings(LOOM, 0, "aabb"), [[0, 0, 3], [0, 1, 2]])

    def test_none(self):
        for state, text in [(0, "b"), (1, "a"), (0, "abbb"), (2, "a"), (63, "ab"), (1, "bb" * 5)]:
            self.assertEqual(readings(LOOM, state, text), [])
            self.assertEqual(count(LOOM, state, text), 0)

    def test_a_row_that_goes_beyond_the_text_does_not_read_it(self):
        loom = Loom("ab", [(0, "aba", 0)])
        self.assertEqual([readings(loom, 0, text) for text in ["a", "ab", "aba", "abaa"]], [[], [], [[0]], []])

    def test_the_empty_text_is_read_by_the_empty_row_alone(self):
        for state in range(64):
            self.assertEqual(readings(LOOM, state, ""), [[]])
            self.assertEqual(count(LOOM, state, ""), 1)

    def test_the_end_may_be_any_state(self):
        loom = Loom("a", [(0, "a", 5), (0, "a", 63), (0, "aa", 1), (5, "a", 7)])
        self.assertEqual(readings(loom, 0, "aa"), [[0, 3], [2]])

    def test_python_s_order_of_lists(self):
        loom = Loom("a", [(0, "aaa", 0), (0, "a", 0), (0, "aa", 0)])
        self.assertEqual(readings(loom, 0, "aaa"), [[0], [1, 1, 1], [1, 2], [2, 1]])
        found = readings(loom, 0, "a" * 8)
        self.assertEqual(found, sorted(found))
        self.assertEqual(len(found), 81)

    def test_equal_arcs_make_different_rows(self):
        loom = Loom("a", [(0, "a", 0), (0, "a", 0)])
        self.assertEqual(readings(loom, 0, "aa"), [[0, 0], [0, 1], [1, 0], [1, 1]])
        self.assertEqual(count(loom, 0, "aa"), 4)

    def test_two_hundred_readings_and_one_more(self):
        self.assertEqual(readings(EQUAL, 0, "a"), [[number] for number in range(200)])
        for first, second in [(20, 10), (160, 1), (1, 199), (8, 25)]:
            loom = Loom("ab", [(0, "a", 1)] * first + [(1, "b", 2)] * second)
            self.assertEqual(len(readings(loom, 0, "ab")), first * second)
        for first, second in [(3, 67), (67, 3), (100, 100), (2, 101)]:
            loom = Loom("ab", [(0, "a", 1)] * first + [(1, "b", 2)] * second)
            check_error(self, LimitExceeded, [200], readings, loom, 0, "ab")
            self.assertEqual(count(loom, 0, "ab"), first * second)

    def test_two_hundred_readings_that_part_late(self):
        loom = Loom("ab", [(0, "a", 0)] + [(0, "b", 1)] * 199)
        rows = readings(loom, 0, "a" * 1999 + "b")
        self.assertEqual(rows, [[0] * 1999 + [number] for number in range(1, 200)])

    def test_two_hundred_readings_that_part_early(self):
        loom = Loom("ab", [(0, "b", 1)] * 199 + [(1, "a", 1)])
        rows = readings(loom, 0, "b" + "a" * 1999)
        self.assertEqual(rows, [[number] + [199] * 1999 for number in range(199)])

    def test_two_hundred_readings_that_part_in_turn(self):
        loom = Loom("a", [(0, "a", 0), (0, "a", 1), (1, "a", 1)])
        self.assertEqual(len(readings(loom, 0, "a" * 199)), 200)
        self.assertEqual(readings(loom, 0, "a" * 199)[-1], [1] + [2] * 198)
        check_error(self, LimitExceeded, [200], readings, loom, 0, "a" * 200)
        self.assertEqual(count(loom, 0, "a" * 200), 201)

    def test_far_too_many(self):
        check_error(self, LimitExceeded, [200], readings, STEPS, 0, "a" * 2000)
        check_error(self, LimitExceeded, [200], readings, EQUAL, 0, "a" * 2000)

    def test_many_rows_that_come_to_no_end(self):
        self.assertEqual(readings(STEPS, 0, "a" * 1999 + "b"), [])
        self.assertEqual(count(STEPS, 0, "a" * 1999 + "b"), 0)

    def test_one_row_among_many_that_come_to_no_end(self):
        loom = Loom("ab", [(0, "a", 1), (1, "a", 1), (1, "aa", 1), (0, "a", 2), (2, "a", 2), (2, "b", 2)])
        self.assertEqual(readings(loom, 0, "a" * 1999 + "b"), [[3] + [4] * 1998 + [5]])
        self.assertEqual(count(loom, 0, "a" * 1999 + "b"), 1)

    def test_a_new_list_on_each_call_the_rows_too(self):
        for text in ["", "a", "abb", "b"]:
            check_new_list(self, readings, LOOM, 0, text)
        rows = readings(LOOM, 0, "abb")
        self.assertIsNot(rows[0], rows[1])


class Count(TimedCase):
    def test_ordinary_texts(self):
        self.assertEqual([count(LOOM, 0, text) for text in ["a", "abb", "abbabb", "abbb", "bb"]], [1, 2, 4, 0, 1])
        self.assertEqual([count(LOOM, 1, text) for text in ["b", "babb", "a"]], [1, 2, 0])

    def test_from_a_state_that_is_not_met(self):
        loom = Loom("a", [(0, "a", 0), (5, "a", 5), (5, "aa", 0)])
        self.assertEqual([count(loom, 5, "a" * length) for length in range(5)], [1, 1, 2, 3, 4])

    def test_all_ends_are_counted(self):
        loom = Loom("a", [(0, "a", state) for state in range(64)])
        self.assertEqual([count(loom, 0, "a" * length) for length in range(4)], [1, 64, 64, 64])

    def test_numbers_of_hundreds_of_digits(self):
        self.assertTrue(count(STEPS, 0, "a" * 2000) == fibonacci(2000))
        self.assertTrue(count(EQUAL, 0, "a" * 2000) == 200 ** 2000)

    def test_more_than_two_hundred_is_no_error(self):
        self.assertEqual(count(EQUAL, 0, "aa"), 40000)

    def test_long_words(self):
        loom = Loom("a", [(0, "a" * 12, 0), (0, "a" * 11, 0)])
        self.assertEqual([count(loom, 0, "a" * length) for length in [10, 11, 12, 23, 132]], [0, 1, 1, 2, 2])


class Sure(TimedCase):
    def test_ordinary_texts(self):
        self.assertEqual(sure(LOOM, 0, "a"), [])
        self.assertEqual(sure(LOOM, 0, "aa"), [0])
        self.assertEqual(sure(LOOM, 0, "ab"), [])
        self.assertEqual(sure(LOOM, 0, "b"), [3])
        self.assertEqual(sure(LOOM, 0, "bb"), [3])
        self.assertEqual(sure(LOOM, 1, "b"), [2])
        self.assertEqual(sure(LOOM, 0, "abba"), [])

    def test_no_row_covers(self):
        for state, text in [(1, "a"), (0, "ba"), (0, "aba"), (2, "a"), (63, "b"), (1, "baba")]:
            self.assertIsNone(sure(LOOM, state, text))

    def test_the_empty_text_is_covered_by_the_empty_row_alone(self):
        for loom in [LOOM, Loom("a", [(0, "a", 0)]), Loom("ab", [(3, "ab", 4)])]:
            for state in range(64):
                self.assertEqual(sure(loom, state, ""), [])

    def test_a_row_that_covers_may_be_longer_than_the_text(self):
        loom = Loom("ab", [(0, "abab", 0)])
        told = [sure(loom, 0, text) for text in ["a", "aba", "abab", "ababa", "abb", "abababab"]]
        self.assertEqual(told, [[0], [0], [0], [0, 0], None, [0, 0]])

    def test_a_long_word_over_the_end(self):
        loom = Loom("ab", [(0, "b", 0), (0, "a" * 12, 0)])
        self.assertEqual(sure(loom, 0, "b" * 1999 + "a"), [0] * 1999 + [1])
        self.assertEqual(sure(loom, 0, "b" * 1987 + "a" * 13), [0] * 1987 + [1, 1])

    def test_the_row_ends_where_the_text_is_covered(self):
        # The arc behind is the only one, and yet not one of a covering row.
        loom = Loom("ab", [(0, "ab", 1), (1, "b", 1)])
        told = [sure(loom, 0, text) for text in ["a", "ab", "abb", "abbb", "aba"]]
        self.assertEqual(told, [[0], [0], [0, 1], [0, 1, 1], None])

    def test_what_comes_to_no_end_is_not_counted(self):
        loom = Loom("ab", [(0, "a", 0), (0, "aa", 1), (1, "b", 1)])
        told = [sure(loom, 0, text) for text in ["a", "aa", "aab", "aaa", "aaab", "aaaa"]]
        self.assertEqual(told, [[], [], [1, 2], [0], [0, 1, 2], [0, 0]])

    def test_a_dead_end_is_no_covering_row(self):
        loom = Loom("ab", [(0, "a", 1), (0, "a", 2), (2, "b", 2)])
        self.assertEqual([sure(loom, 0, text) for text in ["a", "ab", "aa"]], [[], [1, 2], None])

    def test_equal_arcs_are_told_apart(self):
        loom = Loom("ab", [(0, "b", 0), (0, "a", 0), (0, "a", 0)])
        self.assertEqual([sure(loom, 0, text) for text in ["b", "ba", "bab", "a"]], [[0], [0], [0], []])

    def test_rows_of_one_text_that_part_and_come_together(self):
        loom = Loom("ab", [(0, "b", 0), (0, "a", 1), (0, "aa", 2), (1, "a", 2), (2, "b", 2)])
        self.assertEqual(sure(loom, 0, "baab"), [0])
        self.assertEqual(sure(loom, 1, "ab"), [3, 4])

    def test_long_texts_that_very_many_rows_cover(self):
        self.assertEqual(sure(STEPS, 0, "a" * 2000), [])
        self.assertIsNone(sure(STEPS, 0, "a" * 1999 + "b"))
        self.assertEqual(sure(EQUAL, 0, "a" * 2000), [])

    def test_sure_ahead_of_very_many_rows(self):
        loom = Loom("ab", [(0, "b", 0), (0, "a", 1), (1, "a", 1), (1, "aa", 1)])
        self.assertEqual(sure(loom, 0, "b" * 500 + "a" * 1500), [0] * 500 + [1])

    def test_sure_although_very_many_rows_begin_the_text(self):
        loom = Loom("ab", [(0, "a", 1), (1, "a", 1), (1, "aa", 1), (0, "a", 2), (2, "a", 2), (2, "b", 2)])
        self.assertEqual(sure(loom, 0, "a" * 1999 + "b"), [3] + [4] * 1998 + [5])
        self.assertEqual(sure(loom, 0, "a" * 2000), [])

    def test_a_new_list_on_each_call(self):
        for text in ["", "a", "bb", "aabb"]:
            check_new_list(self, sure, LOOM, 0, text)


class WrongArguments(TimedCase):
    def test_what_is_no_state(self):
        for function in [readings, count, sure]:
            for value in no_states():
                check_error(self, UnknownState, [], function, LOOM, value, "a")
                check_error(self, UnknownState, [], function, LOOM, value, "")

    def test_what_is_no_text(self):
        for function in [readings, count, sure]:
            for value in no_texts("ab"):
                check_error(self, InvalidText, [], function, LOOM, 0, value)
                check_error(self, InvalidText, [], function, LOOM, 63, value)

    def test_strings_that_are_no_texts(self):
        for function in [readings, count, sure]:
            for text in ["c", "abc", "A", "a b", " ", "a\n", "a" * 2001, "ab" * 1001, "c" * 2000, "a" * 1999 + "c"]:
                check_error(self, InvalidText, [], function, LOOM, 0, text)

    def test_the_text_is_over_the_loom_s_signs(self):
        loom = Loom("ac", [(0, "a", 0)])
        for function in [readings, count, sure]:
            check_error(self, InvalidText, [], function, loom, 0, "b")
        self.assertEqual([readings(loom, 0, "c"), count(loom, 0, "c"), sure(loom, 0, "c")], [[], 0, None])

    def test_two_thousand_signs_are_a_text(self):
        loom = Loom("ab", [(0, "a", 0)])
        self.assertEqual(readings(loom, 0, "a" * 2000), [[0] * 2000])
        self.assertEqual(count(loom, 0, "a" * 2000), 1)
        self.assertEqual(sure(loom, 0, "a" * 2000), [0] * 2000)
        for function in [readings, count, sure]:
            check_error(self, InvalidText, [], function, loom, 0, "a" * 2001)

    def test_the_state_comes_ahead_of_the_text(self):
        for function in [readings, count, sure]:
            for state in [-1, 64, True, False, None, "0", [], 0.0]:
                for text in ["c", None, "a" * 2001, 0, b"a"]:
                    check_error(self, UnknownState, [], function, LOOM, state, text)

    def test_the_limit_comes_behind_the_others(self):
        check_error(self, UnknownState, [], readings, EQUAL, 64, "aa")
        check_error(self, UnknownState, [], readings, EQUAL, False, "aa")
        check_error(self, InvalidText, [], readings, EQUAL, 0, "a" * 2001)
        check_error(self, LimitExceeded, [200], readings, EQUAL, 0, "aa")


if __name__ == "__main__":
    unittest.main()
