"""[12]: rows, their texts and their ends."""

import unittest

from onewayread.errors import InvalidRow, UnknownState
from onewayread.looms import Loom
from onewayread.rows import end_of, is_row, text_of

from tests.helpers import TimedCase, all_kinds, check_error, no_sequences, no_states

LOOM = Loom("ab", [(0, "a", 0), (0, "ab", 1), (1, "b", 0), (0, "bb", 63), (63, "a", 63), (0, "a", 0)])


class Rows(TimedCase):
    def check(self, state, row, text, end):
        for made in [list(row), tuple(row)]:
            self.assertIs(is_row(LOOM, state, made), True)
            self.assertEqual(text_of(LOOM, state, made), text)
            self.assertEqual(end_of(LOOM, state, made), end)

    def test_rows_from_several_states(self):
        self.check(0, [0], "a", 0)
        self.check(0, [1], "ab", 1)
        self.check(0, [1, 2], "abb", 0)
        self.check(1, [2, 1, 2, 0, 5, 3, 4, 4], "babbaabbaa", 63)
        self.check(63, [4, 4], "aa", 63)

    def test_the_empty_row_from_each_state(self):
        for state in range(64):
            self.check(state, [], "", state)

    def test_equal_arcs_have_numbers_of_their_own(self):
        self.check(0, [0, 5, 5, 0], "aaaa", 0)

    def test_two_thousand_items_and_a_text_that_is_longer(self):
        self.check(0, [0] * 2000, "a" * 2000, 0)
        self.check(0, [1, 2] * 1000, "abb" * 1000, 0)
        loom = Loom("a", [(7, "a" * 12, 7)])
        self.assertEqual(text_of(loom, 7, [0] * 2000), "a" * 24000)
        self.assertEqual(end_of(loom, 7, [0] * 2000), 7)

    def test_a_row_is_not_changed(self):
        row = [1, 2, 0]
        is_row(LOOM, 0, row), text_of(LOOM, 0, row), end_of(LOOM, 0, row)
        self.assertEqual(row, [1, 2, 0])
        wrong = [1, 0, None]
        is_row(LOOM, 0, wrong)
        check_error(self, InvalidRow, [1], text_of, LOOM, 0, wrong)
        check_error(self, InvalidRow, [1], end_of, LOOM, 0, wrong)
        self.assertEqual(wrong, [1, 0, None])


class WrongRows(TimedCase):
    def check(self, at, state, row):
        self.assertIs(is_row(LOOM, state, row), False)
        check_error(self, InvalidRow, [at], text_of, LOOM, state, row)
        check_error(self, InvalidRow, [at], end_of, LOOM, state, row)

    def test_what_is_no_list_or_tuple(self):
        for value in no_sequences():
            self.check(-1, 0, value)

    def test_dicts_sets_and_iterators_of_numbers(self):
        for row in [{0: 0}, {0}, frozenset([0]), range(1), iter([0]), (at for at in [0]), {0: 0}.keys(), b"\x00", "0"]:
            self.check(-1, 0, row)

    def test_too_many_items(self):
        self.check(-1, 0, [0] * 2001)
        self.check(-1, 0, (0,) * 2001)
        self.check(-1, 0, [None] * 2001)

    def test_the_first_arc_leaves_another_state(self):
        self.check(0, 0, [2])
        self.check(0, 0, [4, 4])
        self.check(0, 1, [0])
        self.check(0, 2, [0])
        self.check(0, 63, [3])

    def test_a_further_arc_leaves_another_state(self):
        self.check(1, 0, [1, 0])
        self.check(2, 0, [1, 2, 2])
        self.check(1, 0, [0, 2])
        self.check(3, 0, [0, 0, 3, 0])

    def test_numbers_of_no_arc(self):
        for number in [-1, -5, -6, 6, 7, 199, 200, 10 ** 30, -(10 ** 30)]:
            self.check(0, 0, [number])
            self.check(2, 0, [0, 5, number, 0])

    def test_booleans_are_no_numbers_of_arcs(self):
        for flag in [True, False]:
            self.check(0, 0, [flag])
            self.check(1, 0, (0, flag))

    def test_items_of_all_kinds(self):
        for value in all_kinds():
            if isinstance(value, bool) or not isinstance(value, int):
                self.check(0, 0, [value])
                self.check(0, 0, (value, 0))
                self.check(1, 0, [0, value])

    def test_the_first_wrong_item_is_told(self):
        self.check(1, 0, [0, 2, None, True, 99])
        self.check(1, 0, [0, None, 2])
        self.check(1999, 0, [0] * 1999 + [2])

    def test_all_arcs_of_the_greatest_loom_have_numbers(self):
        loom = Loom("a", [(0, "a", 0)] * 200)
        self.assertIs(is_row(loom, 0, list(range(200))), True)
        self.assertEqual(text_of(loom, 0, [199]), "a")
        self.assertIs(is_row(loom, 0, [200]), False)
        check_error(self, InvalidRow, [1], end_of, loom, 0, [199, 200])


class WrongStates(TimedCase):
    def test_what_is_no_state(self):
        for value in no_states():
            for function in [is_row, text_of, end_of]:
                check_error(self, UnknownState, [], function, LOOM, value, [])
                check_error(self, UnknownState, [], function, LOOM, value, [0])

    def test_the_state_comes_ahead_of_the_row(self):
        for state in [-1, 64, True, False, None, "0", 0.0]:
            for row in [None, [None], [99], [0] * 2001, "a", [2]]:
                for function in [is_row, text_of, end_of]:
                    check_error(self, UnknownState, [], function, LOOM, state, row)


if __name__ == "__main__":
    unittest.main()
