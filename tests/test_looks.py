"""[23]: the look-ahead of a loom, and covered rows."""

import copy
import random
import unittest
from collections import Counter

from onewayread.looks import is_covered, longest_covered, look, ring
from onewayread.looms import Loom, met
from onewayread.rests import double
from onewayread.rows import sure

from tests.helpers import TimedCase, all_kinds, check_judge, check_new_lists_inside, spoilt_inside
from tests.plain_rests import plain_is_covered, plain_most_covered, rows_of_arcs
from tests.plain_search import some_loom

ENDLESS = Loom("ab", [(0, "a", 0), (0, "ab", 0), (0, "bb", 0)])
PLAIN = Loom("ab", [(0, "a", 0), (0, "b", 0)])
TWO = Loom("ab", [(0, "a", 1), (1, "b", 2), (2, "a", 3), (0, "ab", 4), (4, "ab", 5), (3, "b", 6)])


def text_of_periods(period, beside):
    """The longest text of two signs that is not all one sign and has both periods, which have no common factor."""
    text = [None] * (period + beside - 2)
    for sign in "ab":
        waiting = [text.index(None)]
        while waiting:
            at = waiting.pop()
            if 0 <= at < len(text) and text[at] is None:
                text[at] = sign
                waiting.extend([at - period, at + period, at - beside, at + beside])
    return "".join(text)


def road(text, lengths, first):
    """Arcs from 0 to states from the first one on, round which the text goes in words of these lengths."""
    arcs, at = [], 0
    for number, length in enumerate(lengths):
        word = text[at:at + length]
        goal = first + number
        arcs.append((goal - 1 if number else first + len(lengths) - 1, word, goal))
        at += length
    return [(0, arcs[0][1], first)] + arcs


class Look(TimedCase):
    def check(self, signs, arcs, number):
        loom = Loom(signs, arcs)
        self.assertEqual(look(loom), number)
        self.assertEqual(ring(loom) is None, number is not None)
        told = longest_covered(loom)
        if number in (0, None):
            self.assertIsNone(told)
        else:
            self.assertIs(is_covered(loom, told), True)
            self.assertIs(plain_is_covered(loom, told), True)
            self.assertEqual([value.__class__ for value in told], [int, list, list])
            self.assertEqual(len(told[1]), number)

    def test_look_none(self):
        self.check("ab", ENDLESS.arcs, None)
        self.check("ab", [(0, "a", 0), (0, "ab", 0), (0, "ba", 0)], None)
        self.check("a", [(0, "a", 0), (0, "a", 0)], None)
        self.check("a", [(0, "a", 1), (0, "a", 2), (1, "a", 1), (2, "a", 2)], None)
        self.check("a", [(0, "a" * 12, 0), (0, "a" * 11, 0)], None)

    def test_look_zero(self):
        self.check("a", [(0, "a", 0)], 0)
        self.check("a", [(0, "a" * 12, 5)], 0)
        self.check("ab", PLAIN.arcs, 0)
        self.check("ab", [(0, "a" * 12, 0), (0, "a" * 11 + "b", 0)], 0)
        self.check("ab", [(0, "aa", 1), (0, "ab", 2), (1, "b", 0), (2, "a", 2), (2, "b", 1)], 0)
        self.check("a", [(1, "a", 1), (1, "aa", 1)], 0)

    def test_look_one(self):
        self.check("a", [(0, "a", 1), (0, "a", 1)], 1)
        self.check("ab", [(0, "a", 1), (0, "ab", 1)], 1)
        self.check("ab", [(0, "a", 0), (0, "ab", 1)], 1)
        self.check("ab", [(0, "b", 0), (0, "ba", 1), (1, "ba", 0)], 1)
        self.check("ab", [(0, "b", 0), (0, "ba", 1), (1, "b", 0)], 1)

    def test_a_double_and_a_number(self):
        loom = Loom("a", [(0, "a", 1), (0, "a", 1)])
        self.assertIsNotNone(double(loom))
        self.check("a", [(0, "a", 1), (0, "a", 1), (1, "a", 2), (2, "a", 3)], 3)
        self.check("a", [(0, "a", 1), (0, "a", 1), (1, "aa", 2), (1, "a", 2), (2, "a", 3)], 3)

    def test_only_met_states_have_covered_rows(self):
        arcs = [(5, "a", 5), (5, "a", 6), (6, "a", 6)]
        self.check("ab", [(0, "a", 1)] + arcs, 0)
        self.check("ab", [(0, "a", 5)] + arcs, None)
        self.check("ab", [(0, "a", 5)] + arcs[:2], 1)

    def test_the_arcs_of_the_covered_row_count_alone(self):
        # Twelve arcs of one sign each are covered by one arc, and one by twelve.
        arcs = [(0, "a", 1)] + [(state, "b", state + 1) for state in range(1, 12)]
        self.check("ab", arcs + [(0, "a" + "b" * 11, 20)], 12)
        self.check("ab", arcs[:11] + [(0, "a" + "b" * 11, 20)], 11)
        self.check("ab", arcs[:11] + [(11, "a", 12), (0, "a" + "b" * 11, 20)], 11)
        # The last arc goes beyond what the other row has: the row is not covered any more.
        self.check("ab", arcs[:11] + [(11, "ba", 12), (0, "a" + "b" * 11, 20)], 11)

    def test_the_row_that_begins_longer_may_be_the_covered_one(self):
        self.check("ab", [(0, "aaa", 1), (1, "b", 2), (2, "b", 3), (0, "a", 4), (4, "aabbb", 5)], 3)
        self.check("ab", [(0, "aaa", 1), (1, "b", 2), (2, "b", 3), (0, "a", 4), (4, "aabb", 5)], 3)
        self.check("ab", [(0, "aaa", 1), (1, "b", 2), (2, "b", 3), (0, "a", 4), (4, "aab", 5)], 2)
        self.check("ab", [(0, "aaa", 1), (1, "b", 2), (2, "b", 3), (0, "a", 4), (4, "aa", 5)], 2)
        self.check("ab", [(0, "aaa", 1), (1, "b", 2), (2, "b", 3), (0, "a", 4), (4, "ab", 5)], 1)

    def test_rows_that_overtake_one_another(self):
        self.check("ab", TWO.arcs, 4)
        self.check("ab", TWO.arcs[:5], 3)
        self.assertEqual(longest_covered(Loom("ab", [(0, "a", 1), (0, "ab", 2)])), (0, [0], [1]))

    def test_the_other_row_may_come_to_the_end_last(self):
        # The other row is behind until its last arc, and has fewer arcs.
        arcs = [(0, "a", 1), (1, "a", 2), (2, "bb", 3), (0, "aab", 4), (4, "b", 5)]
        self.check("ab", arcs, 3)
        self.assertEqual(longest_covered(Loom("ab", arcs)), (0, [0, 1, 2], [3, 4]))
        self.check("ab", arcs[:4], 2)
        self.check("ab", arcs[:4] + [(4, "bb", 5)], 3)
        self.check("ab", arcs[::-1], 3)
        self.check("ab", arcs + [(5, "b", 6), (3, "bbb", 7), (6, "bb", 8)], 4)

    def test_a_loom_without_an_end_whose_rows_part(self):
        arcs = [(0, "a", 1), (0, "a", 2), (1, "a", 3), (2, "a", 4), (3, "a", 3), (4, "b", 4)]
        self.check("ab", arcs, 2)
        self.check("ab", arcs + [(3, "b", 5)], 3)
        self.check("ab", arcs + [(3, "b", 3)], None)

    def test_a_line_of_states_of_which_one_may_leave_some_out(self):
        arcs = [(state, "a" * step, state + step) for state in range(64) for step in [1, 2, 3] if state + step < 64]
        self.check("a", arcs, 63)

    def test_looks_that_are_great(self):
        # Two roads part behind as many signs as two rounds can have in common.
        lengths = [12] * 30 + [11]
        text = text_of_periods(sum(lengths), 32)
        arcs = road(text, lengths, 1) + road(text, [1] * 32, 32)
        self.check("ab", arcs, len(text))
        self.assertEqual(len(text), 401)
        self.check("ab", road(text, [1] * 32, 1) + road(text, lengths, 33), 401)
        self.assertEqual(max(state for arc in arcs for state in arc[::2]), 63)

    def test_against_a_search_over_rows_of_few_arcs(self):
        chance = random.Random(230)
        seen = {}
        for _ in range(1500):
            loom, _ = some_loom(chance)
            rows = sum(len(rows_of_arcs(loom, state, 4)) for state in met(loom))
            if rows < 800:
                number = look(loom)
                most = plain_most_covered(loom, 4)
                self.assertEqual(most, 4 if number is None else min(number, 4), loom.arcs)
                told = longest_covered(loom)
                if number in (0, None):
                    self.assertIsNone(told)
                else:
                    self.assertIs(plain_is_covered(loom, told), True)
                    self.assertEqual(len(told[1]), number)
                seen[number] = seen.get(number, 0) + 1
        for number in [None, 0, 1, 2]:
            self.assertGreater(seen[number], 10, seen)

    def test_so_many_further_arcs_are_enough(self):
        chance = random.Random(231)
        many = 0
        for _ in range(600):
            loom, _ = some_loom(chance)
            number = look(loom)
            if number is not None:
                for state in met(loom):
                    for row, text, _ in rows_of_arcs(loom, state, number + 2)[:120]:
                        if len(row) > number:
                            first = len(row) - number
                            self.assertEqual(sure(loom, state, text)[:first], row[:first], loom.arcs)
                            many += number > 0
        self.assertGreater(many, 300)

    def test_the_lists_are_new_ones(self):
        for arcs in [[(0, "a", 1), (0, "a", 1)], [(0, "a", 1), (0, "ab", 1)], list(TWO.arcs)]:
            check_new_lists_inside(self, longest_covered, Loom("ab", arcs))


class IsCovered(TimedCase):
    def test_lists_and_tuples(self):
        for row in [[0], (0,)]:
            for other in [[1], (1,), [1, 2], (1, 0)]:
                self.assertIs(is_covered(ENDLESS, (0, row, other)), True)
        self.assertIs(is_covered(ENDLESS, (0, [0, 2, 2], [1, 2, 2])), True)

    def test_not_the_other_way_round(self):
        self.assertIs(is_covered(ENDLESS, (0, [1], [0])), False)
        self.assertIs(is_covered(ENDLESS, (0, [1], [0, 2])), True)
        self.assertIs(is_covered(ENDLESS, (0, [0, 2], [1])), False)

    def test_rows_of_one_text_cover_one_another(self):
        loom = Loom("ab", [(0, "ab", 1), (0, "a", 2), (2, "b", 3)])
        self.assertIs(is_covered(loom, (0, [0], [1, 2])), True)
        self.assertIs(is_covered(loom, (0, [1, 2], [0])), True)

    def test_the_other_row_may_go_far_beyond(self):
        loom = Loom("ab", [(0, "a", 1), (0, "a", 2), (2, "b", 2)])
        self.assertIs(is_covered(loom, (0, [0], [1] + [2] * 1999)), True)
        self.assertIs(is_covered(loom, (0, [0], [1] + [2] * 2000)), False)
        self.assertIs(is_covered(loom, (0, [1] + [2] * 1999, [0])), False)

    def test_rows_of_two_thousand_arcs(self):
        loom = Loom("a", [(0, "a", 1), (0, "a", 2), (1, "a", 1), (2, "a", 2)])
        self.assertIs(is_covered(loom, (0, [0] + [2] * 1999, [1] + [3] * 1999)), True)
        self.assertIs(is_covered(loom, (0, [0] + [2] * 1999, [1] + [3] * 1998)), False)
        self.assertIs(is_covered(loom, (0, [0] + [2] * 2000, [1] + [3] * 2000)), False)

    def test_the_first_arcs_are_unlike(self):
        for row, other in [([0], [0]), ([0], [0, 1]), ([1], (1, 2)), ([0, 0], [0, 1])]:
            self.assertIs(is_covered(ENDLESS, (0, row, other)), False)
        self.assertIs(is_covered(Loom("a", [(0, "a", 0), (0, "a", 0)]), (0, [0], [1])), True)

    def test_neither_row_is_empty(self):
        for row, other in [([], [0]), ([0], []), ([], []), ((), [1, 2]), ([0], ())]:
            self.assertIs(is_covered(ENDLESS, (0, row, other)), False)

    def test_the_state_has_to_be_met(self):
        loom = Loom("a", [(0, "a", 1), (1, "a", 2), (1, "a", 2), (5, "a", 5), (5, "a", 5)])
        self.assertIs(is_covered(loom, (1, [1], [2])), True)
        self.assertIs(is_covered(loom, (5, [3], [4])), False)
        self.assertIs(is_covered(loom, (0, [1], [2])), False)

    def test_booleans_are_neither_states_nor_numbers(self):
        loom = Loom("a", [(0, "a", 1), (0, "a", 1), (1, "a", 0), (1, "a", 0)])
        self.assertIs(is_covered(loom, (0, [0], [1])), True)
        self.assertIs(is_covered(loom, (1, [2], [3])), True)
        for thing in [(False, [0], [1]), (True, [2], [3]), (0, [False], [1]), (0, [0], [True]), (1.0, [2], [3])]:
            self.assertIs(is_covered(loom, thing), False)

    def test_things_of_all_kinds(self):
        for value in all_kinds():
            self.assertIs(is_covered(ENDLESS, value), False)
        for thing in [[0, [0], [1]], (0, [0]), (0, [0], [1], []), (0, "a", "ab"), (0, {0: 0}, [1]), (0, [0], {1})]:
            self.assertIs(is_covered(ENDLESS, thing), False)

    def test_covered_rows_that_are_spoilt(self):
        for thing in [(0, [0], [1]), (0, (0, 2), (1, 2)), (0, [1], (0, 2, 2))]:
            told = check_judge(self, is_covered, plain_is_covered, ENDLESS, spoilt_inside(thing))
            self.assertGreater(told[False], 300)

    def test_all_pairs_of_short_rows(self):
        chance = random.Random(232)
        told = Counter()
        for _ in range(150):
            loom, states = some_loom(chance)
            for state in states:
                rows = [row for row, _, _ in rows_of_arcs(loom, state, 3)][:25]
                things = [(state, row, other) for row in rows for other in rows]
                told += check_judge(self, is_covered, plain_is_covered, loom, things)
        self.assertGreater(min(told.values()), 300)

    def test_things_are_not_changed(self):
        for thing in [(0, [0], [1]), (0, [0], [None, {}]), (0, [], [0])]:
            kept = copy.deepcopy(thing)
            is_covered(ENDLESS, thing)
            self.assertEqual(thing, kept)


class GreatLooms(TimedCase):
    def test_two_hundred_arcs(self):
        chance = random.Random(233)
        for signs, longest in [("abcd", 12), ("ab", 4), ("ab", 12), ("a", 12)]:
            words = ["".join(chance.choice(signs) for _ in range(chance.randint(1, longest))) for _ in range(200)]
            loom = Loom(signs, [(chance.randrange(64), word, chance.randrange(64)) for word in words])
            told = longest_covered(loom)
            self.assertEqual(ring(loom) is None, look(loom) is not None)
            if told is not None:
                self.assertEqual([plain_is_covered(loom, told), len(told[1])], [True, look(loom)])

    def test_equal_arcs(self):
        self.assertIsNone(look(Loom("a", [(0, "a", 0)] * 200)))
        self.assertEqual(look(Loom("a", [(0, "a", 1)] * 200)), 1)
        loom = Loom("a", [(state, "a", state + 1) for state in range(40) for _ in range(5)])
        self.assertEqual(look(loom), 40)


if __name__ == "__main__":
    unittest.main()
