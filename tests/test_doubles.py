"""[21]: one-way looms, doubles, and the judge of doubles."""

import copy
import random
import unittest
from collections import Counter

from onewayread.looms import Loom, met
from onewayread.rests import double, is_double, one_way
from onewayread.rows import count, readings, text_of

from tests.helpers import TimedCase, all_kinds, check_judge, check_new_lists_inside, spoilt_inside
from tests.plain_rests import plain_is_double, plain_shortest_double, rows_of_arcs
from tests.plain_search import some_loom

DOUBLE = Loom("ab", [(0, "a", 0), (0, "ab", 0), (0, "ba", 0)])
EQUAL = Loom("a", [(0, "a", 1), (0, "a", 1), (5, "a", 5)])


class OneWay(TimedCase):
    def check(self, signs, arcs, length):
        """Checks the shortest double, whose text has so many signs; None if there is none."""
        loom = Loom(signs, arcs)
        self.assertIs(one_way(loom), length is None)
        told = double(loom)
        if length is None:
            self.assertIsNone(told)
            return
        self.assertIs(is_double(loom, told), True)
        state, one, other = told
        self.assertIs(plain_is_double(loom, told), True)
        self.assertEqual([told.__class__, one.__class__, other.__class__], [tuple, list, list])
        self.assertNotEqual(one[0], other[0])
        self.assertEqual(len(text_of(loom, state, one)), length)

    def test_one_way_looms(self):
        self.check("a", [(0, "a", 0)], None)
        self.check("ab", [(0, "a", 0), (0, "ab", 0), (0, "bb", 0)], None)
        self.check("ab", [(0, "a", 1), (0, "a", 2)], None)
        self.check("ab", [(0, "a", 1), (0, "a", 2), (1, "b", 3), (2, "b", 4)], None)
        self.check("ab", [(0, "a" * 12, 0), (0, "a" * 11 + "b", 0)], None)

    def test_doubles(self):
        self.check("ab", DOUBLE.arcs, 3)
        self.check("a", [(0, "a", 1), (0, "a", 1)], 1)
        self.check("a", [(0, "aa", 0), (0, "aaa", 0)], 5)
        self.check("a", [(0, "aa", 0), (0, "aaa", 0), (0, "aaaa", 0)], 4)
        self.check("a", [(0, "a" * 12, 0), (0, "a" * 11, 0)], 23)
        self.check("ab", [(0, "a" * 12, 3), (0, "a" * 12, 3)], 12)
        self.check("ab", [(0, "a", 1), (0, "a", 2), (1, "b", 3), (2, "b", 3)], 2)
        self.check("ab", [(0, "ab", 1), (0, "a", 2), (2, "bab", 3), (1, "a", 4), (4, "b", 3)], 4)

    def test_equal_arcs_are_two(self):
        self.check("a", [(0, "a", 0), (0, "a", 0)], 1)
        self.check("ab", [(0, "b", 1), (1, "ab", 1), (1, "ab", 1)], 2)
        self.assertEqual(sorted(double(EQUAL)[1:]), [[0], [1]])

    def test_only_met_states_have_doubles(self):
        arcs = [(5, "a", 6), (5, "a", 6)]
        self.check("ab", [(0, "a", 1)] + arcs, None)
        self.check("ab", [(0, "a", 5)] + arcs, 1)
        self.check("ab", [(0, "a", 5)] + arcs[:1], None)
        self.check("a", arcs, None)
        self.assertEqual(double(Loom("ab", [(0, "a", 5)] + arcs))[0], 5)

    def test_rows_of_one_text_that_end_in_two_states_are_none(self):
        self.check("a", [(0, "a", 1), (0, "a", 2), (1, "a", 1), (2, "a", 2)], None)
        self.check("ab", [(0, "a", 1), (0, "a", 2), (1, "a", 1), (2, "a", 2), (1, "b", 3), (2, "b", 4)], None)
        self.check("ab", [(0, "a", 1), (0, "a", 2), (1, "a", 1), (2, "a", 2), (1, "b", 3), (2, "ab", 3)], 3)
        self.check("ab", [(0, "a", 1), (0, "a", 2), (1, "a", 1), (2, "a", 2), (1, "ab", 3), (2, "ab", 3)], 3)

    def test_the_shortest_text_is_not_that_of_the_fewest_arcs(self):
        # Two arcs make a double of twelve signs, and eight arcs make one of four.
        arcs = [(0, "a" * 12, 9), (0, "a" * 12, 9)]
        arcs += [(0, "b", 1), (1, "b", 2), (2, "b", 3), (3, "b", 9), (0, "b", 4), (4, "b", 5), (5, "b", 6), (6, "b", 9)]
        self.check("ab", arcs, 4)
        self.check("ab", arcs[2:] + arcs[:2], 4)

    def test_the_shortest_one_that_begins_in_another_state(self):
        arcs = [(0, "ab", 1), (0, "ab", 2), (1, "b", 3), (2, "b", 3), (0, "b", 7), (7, "a", 8), (7, "a", 8)]
        self.check("ab", arcs, 1)
        self.assertEqual(double(Loom("ab", arcs))[0], 7)

    def test_a_long_way_to_the_shortest_one(self):
        # Two roads of 31 and 32 states meet where the number of signs is a multiple of both.
        arcs = [(0, "a", 1), (0, "a", 32)] + [(state, "a", state % 31 + 1) for state in range(1, 32)]
        arcs += [(state, "a", (state - 31) % 32 + 32) for state in range(32, 63)]
        self.check("ab", arcs + [(63, "a", 32)], None)
        # The end of the first road is passed at 31, 62 and so on, that of the second one at 32, 64 and so on.
        self.check("ab", arcs + [(63, "a", 32), (31, "b", 0), (63, "b", 0)], 31 * 32 + 1)

    def test_rows_may_not_be_too_long(self):
        # Of two doubles with texts of one length, one has a row of more than 2000 arcs.
        for last in [[(19, "b", 62), (19, "b", 63), (22, "b", 62), (47, "b", 63)],
                     [(19, "b", 63), (19, "b", 62), (22, "b", 63), (47, "b", 62)]]:
            for first in [[1, 20, 23], [23, 20, 1]]:
                arcs = [(0, "a", state) for state in first]
                arcs += [(1 + at, "a" * 11, 1 + (at + 1) % 19) for at in range(19)]
                arcs += [(20 + at, "a" * 12, 20 + (at + 1) % 3) for at in range(3)]
                arcs += [(23 + at, "a", 23 + (at + 1) % 36) for at in range(36)]
                self.check("ab", arcs + last, 1 + 11 * (18 + 30 * 19) + 1)

    def test_against_all_rows_of_short_texts(self):
        chance = random.Random(21)
        seen = {}
        for _ in range(1200):
            loom, _ = some_loom(chance)
            told = double(loom)
            self.assertIs(one_way(loom), told is None)
            shortest = plain_shortest_double(loom, 5)
            length = None if told is None else len(text_of(loom, told[0], told[1]))
            if told is not None:
                self.assertIs(plain_is_double(loom, told), True)
                self.assertNotEqual(told[1][0], told[2][0])
            if shortest is not None or (length is not None and length <= 5):
                self.assertEqual(length, shortest, loom.arcs)
            seen[length] = seen.get(length, 0) + 1
        for length in [None, 1, 2, 3]:
            self.assertGreater(seen[length], 20, seen)

    def test_a_one_way_loom_has_one_row_at_most_for_a_text_and_an_end(self):
        chance = random.Random(26)
        many = 0
        for _ in range(300):
            loom, _ = some_loom(chance)
            rows = [row for state in met(loom) for row in rows_of_arcs(loom, state, 3)[:100]]
            if one_way(loom) and len(rows) > 4:
                many += 1
                for state in met(loom):
                    for _, text, end in rows_of_arcs(loom, state, 3)[:100]:
                        if count(loom, state, text) <= 200:
                            ends = [loom.arcs[row[-1]][2] if row else state for row in readings(loom, state, text)]
                            self.assertEqual(len(ends), len(set(ends)))
        self.assertGreater(many, 30)

    def test_the_lists_are_new_ones(self):
        for loom in [DOUBLE, EQUAL, Loom("a", [(0, "aa", 0), (0, "aaa", 0)])]:
            check_new_lists_inside(self, double, loom)


class IsDouble(TimedCase):
    def test_lists_and_tuples(self):
        for one in [[0, 2], (0, 2)]:
            for other in [[1, 0], (1, 0)]:
                self.assertIs(is_double(DOUBLE, (0, one, other)), True)
                self.assertIs(is_double(DOUBLE, (0, other, one)), True)

    def test_rows_that_begin_or_end_with_the_same_arcs(self):
        self.assertIs(is_double(DOUBLE, (0, [1, 0, 2, 1], [1, 1, 0, 1])), True)
        self.assertIs(is_double(DOUBLE, (0, [2] * 9 + [0, 2], [2] * 9 + [1, 0])), True)

    def test_equal_rows_are_no_double(self):
        for one, other in [([], []), ([], ()), ([0, 2], (0, 2)), ((0, 2), [0, 2]), ([0], [0]), ((1,), (1,))]:
            self.assertIs(is_double(DOUBLE, (0, one, other)), False)

    def test_equal_arcs_are_two(self):
        self.assertIs(is_double(EQUAL, (0, [0], [1])), True)
        self.assertIs(is_double(EQUAL, (0, [0], [0])), False)

    def test_unlike_texts_or_ends(self):
        loom = Loom("ab", [(0, "a", 0), (0, "a", 1), (0, "b", 0), (0, "aa", 0)])
        self.assertIs(is_double(loom, (0, [0], [1])), False)
        self.assertIs(is_double(loom, (0, [0], [2])), False)
        self.assertIs(is_double(loom, (0, [0], [])), False)
        self.assertIs(is_double(loom, (0, [0], [3])), False)
        self.assertIs(is_double(loom, (0, [0, 0], [3])), True)

    def test_the_state_has_to_be_met(self):
        loom = Loom("a", [(0, "a", 1), (1, "a", 2), (1, "a", 2), (5, "a", 5), (5, "a", 5)])
        self.assertIs(is_double(loom, (1, [1], [2])), True)
        self.assertIs(is_double(loom, (5, [3], [4])), False)
        self.assertIs(is_double(loom, (0, [1], [2])), False)
        self.assertIs(is_double(loom, (0, [0, 1], [0, 2])), True)

    def test_rows_of_two_thousand_numbers_at_most(self):
        loom = Loom("a", [(0, "a", 0), (0, "a", 0)])
        self.assertIs(is_double(loom, (0, [0] * 2000, [0] * 1999 + [1])), True)
        self.assertIs(is_double(loom, (0, [0] * 2001, [0] * 2000 + [1])), False)
        loom = Loom("a", [(0, "a", 0), (0, "a" * 12, 0)])
        self.assertIs(is_double(loom, (0, [0] * 1992, [1] * 166)), True)
        self.assertIs(is_double(loom, (0, [0] * 2004, [1] * 167)), False)

    def test_booleans_are_neither_states_nor_numbers(self):
        loom = Loom("a", [(0, "a", 1), (0, "a", 1), (1, "a", 0), (1, "a", 0)])
        self.assertIs(is_double(loom, (1, [2], [3])), True)
        self.assertIs(is_double(loom, (True, [2], [3])), False)
        self.assertIs(is_double(loom, (0, [0], [1])), True)
        for thing in [(False, [0], [1]), (0, [False], [1]), (0, [0], [True]), (0, [0], [1.0]), (0.0, [0], [1])]:
            self.assertIs(is_double(loom, thing), False)

    def test_things_of_all_kinds(self):
        for value in all_kinds():
            self.assertIs(is_double(DOUBLE, value), False)
        good = (0, [0, 2], [1, 0])
        for thing in [list(good), good[:2], (*good, 0), (good,), (0, "ab", "ab"), (0, {0, 2}, [1, 0])]:
            self.assertIs(is_double(DOUBLE, thing), False)

    def test_doubles_that_are_spoilt(self):
        for loom, thing in [(DOUBLE, (0, [0, 2], [1, 0])), (EQUAL, (0, (0,), (1,)))]:
            told = check_judge(self, is_double, plain_is_double, loom, spoilt_inside(thing))
            self.assertGreater(told[False], 500)

    def test_all_pairs_of_short_rows(self):
        chance = random.Random(27)
        told = Counter()
        for _ in range(150):
            loom, states = some_loom(chance)
            for state in states:
                rows = [row for row, _, _ in rows_of_arcs(loom, state, 3)][:25]
                things = [(state, one, other) for one in rows for other in rows]
                told += check_judge(self, is_double, plain_is_double, loom, things)
        self.assertGreater(min(told.values()), 300)

    def test_things_are_not_changed(self):
        for thing in [(0, [0, 2], [1, 0]), (0, [0, 2], [None, {}]), (0, [0, 2], [0, 2])]:
            kept = copy.deepcopy(thing)
            is_double(DOUBLE, thing)
            self.assertEqual(thing, kept)


class GreatLooms(TimedCase):
    def test_very_many_rests(self):
        chance = random.Random(28)
        arcs = [(state, sign, chance.randrange(64)) for state in range(64) for sign in "ab"]
        words = ["".join(chance.choice("ab") for _ in range(12)) for _ in range(72)]
        loom = Loom("ab", arcs + [(chance.randrange(64), word, chance.randrange(64)) for word in words])
        self.assertIs(one_way(loom), False)
        self.assertIs(plain_is_double(loom, double(loom)), True)

    def test_very_many_rests_without_a_double(self):
        # Each word of the first road is twelve signs long, each of the others one.
        arcs = [(0, "a", 1), (0, "a", 20)] + [(state, "a" * 12, state % 19 + 1) for state in range(1, 20)]
        arcs += [(state, "a", state + 1 if state < 63 else 20) for state in range(20, 64)]
        loom = Loom("a", arcs)
        self.assertIs(one_way(loom), True)
        self.assertIsNone(double(loom))

    def test_two_hundred_equal_arcs(self):
        loom = Loom("a", [(0, "a" * 12, 0)] * 200)
        state, one, other = double(loom)
        self.assertEqual([state, len(one), len(other), one == other], [0, 1, 1, False])


if __name__ == "__main__":
    unittest.main()
