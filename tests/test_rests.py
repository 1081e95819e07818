"""[20] and [22]: rests, and closed lists of them."""

import copy
import itertools
import random
import unittest
from collections import Counter

from onewayread.looms import Loom
from onewayread.rests import closed, double, is_closed, one_way, rests

from tests.helpers import TimedCase, all_kinds, check_judge, check_new_list, spoilt_inside
from tests.plain_rests import plain_is_closed, plain_rests, plain_starts, plain_steps
from tests.plain_search import some_loom

ENDLESS = Loom("ab", [(0, "a", 0), (0, "ab", 0), (0, "bb", 0)])
DOUBLE = Loom("ab", [(0, "a", 0), (0, "ab", 0), (0, "ba", 0)])
# The rests of one-way looms with several states and words of several lengths.
LOOMS = [
    ENDLESS, Loom("a", [(0, "a", 0)]), Loom("ab", [(0, "a", 1), (0, "a", 2), (1, "b", 1), (2, "b", 2)]),
    Loom("ab", [(0, "ab", 1), (0, "a", 2), (2, "ba", 3), (1, "a", 4)]), Loom("ab", [(0, "b", 0), (0, "ba", 0)]),
    Loom("ab", [(0, "a" * 12, 0), (0, "a" * 11, 1), (1, "b", 0)]),
]


class Rests(TimedCase):
    def test_starts_in_both_orders(self):
        self.assertEqual(rests(Loom("a", [(0, "a", 1), (0, "a", 2)])), [(1, 2, ""), (2, 1, "")])
        self.assertEqual(rests(Loom("a", [(0, "a", 1), (0, "a", 1)])), [(1, 1, "")])
        self.assertEqual(rests(Loom("a", [(0, "aaa", 1), (0, "a", 2)])), [(2, 1, "aa")])

    def test_none(self):
        self.assertEqual(rests(Loom("a", [(0, "a", 0)])), [])
        self.assertEqual(rests(Loom("ab", [(0, "a", 0), (0, "b", 0)])), [])
        self.assertEqual(rests(Loom("ab", [(0, "ab", 1), (1, "a", 0)])), [])

    def test_one_arc_is_not_unlike_itself(self):
        self.assertEqual(rests(Loom("a", [(0, "a" * 12, 0)])), [])
        loom = Loom("a", [(0, "a", 1), (1, "a", 0), (1, "aa", 2)])
        self.assertEqual(rests(loom), [(0, 2, "a"), (1, 2, ""), (2, 0, "a"), (2, 2, "aa")])

    def test_only_met_states_have_starts(self):
        arcs = [(5, "a", 6), (5, "a", 7), (6, "b", 6), (7, "b", 7)]
        self.assertEqual(rests(Loom("ab", [(0, "a", 1)] + arcs)), [])
        told = [(6, 7, ""), (6, 7, "b"), (7, 6, ""), (7, 6, "b")]
        self.assertEqual(rests(Loom("ab", [(0, "a", 5)] + arcs)), told)

    def test_from_zero_that_no_arc_leaves(self):
        self.assertEqual(rests(Loom("a", [(1, "a", 1), (1, "aa", 1)])), [])
        self.assertEqual(closed(Loom("a", [(1, "a", 1), (1, "aa", 1)])), [])

    def test_steps_that_keep_something_of_the_left_text(self):
        loom = Loom("ab", [(0, "a", 1), (0, "abbab", 2), (1, "bb", 3), (3, "a", 4), (4, "a", 4)])
        self.assertEqual(rests(loom), [(1, 2, "bbab"), (3, 2, "ab"), (4, 2, "b")])

    def test_a_step_that_leaves_nothing_does_not_turn(self):
        loom = Loom("ab", [(0, "a", 1), (0, "ab", 2), (1, "b", 3), (3, "a", 4), (2, "b", 5)])
        self.assertEqual(rests(loom), [(1, 2, "b"), (2, 4, "a"), (3, 2, "")])

    def test_steps_that_turn(self):
        loom = Loom("ab", [(0, "a", 1), (0, "ab", 2), (1, "bb", 3), (2, "ba", 4)])
        self.assertEqual(rests(loom), [(1, 2, "b"), (2, 3, "b"), (3, 4, "a")])

    def test_a_left_text_of_twelve_signs(self):
        loom = Loom("ab", [(0, "a", 1), (0, "a", 2), (1, "b" * 12, 3), (3, "b", 3)])
        self.assertEqual(rests(loom), [(1, 2, ""), (2, 1, ""), (2, 3, "b" * 12)])

    def test_they_go_on_behind_a_double(self):
        loom = Loom("ab", [(0, "a", 1), (0, "a", 1), (1, "b", 2), (2, "a", 3)])
        self.assertEqual(rests(loom), [(1, 1, ""), (1, 2, "b"), (2, 2, ""), (2, 3, "a"), (3, 3, "")])

    def test_ascending_in_python_s_order(self):
        words = ["".join(word) for length in [1, 2, 3] for word in itertools.product("abc", repeat=length)]
        loom = Loom("abc", [(at % 3 * 9, word, at * 7 % 4 * 9) for at, word in enumerate(words)])
        found = rests(loom)
        self.assertEqual(found, sorted(set(found)))
        self.assertEqual(found, plain_rests(loom))
        self.assertGreater(len(found), 100)

    def test_against_a_plain_search_from_all_starts(self):
        chance = random.Random(20)
        many = 0
        for _ in range(1500):
            loom, _ = some_loom(chance)
            found = rests(loom)
            self.assertEqual(found, plain_rests(loom), loom.arcs)
            many += len(found) > 4
        self.assertGreater(many, 100)

    def test_a_new_list_on_each_call(self):
        for loom in LOOMS + [DOUBLE]:
            check_new_list(self, rests, loom)
        for loom in LOOMS:
            check_new_list(self, closed, loom)


class Closed(TimedCase):
    def test_closed_is_rests_or_none(self):
        chance = random.Random(22)
        counts = {True: 0, False: 0}
        for _ in range(1500):
            loom, _ = some_loom(chance)
            found = plain_rests(loom)
            even = any(behind == ahead and left == "" for behind, ahead, left in found)
            self.assertEqual(closed(loom), None if even else found)
            self.assertIs(one_way(loom), not even)
            self.assertIs(is_closed(loom, rests(loom)), not even)
            self.assertEqual(double(loom) is None, not even)
            counts[even] += bool(found)
        self.assertGreater(min(counts.values()), 50)

    def test_any_order_and_several_times(self):
        for loom in LOOMS:
            found = closed(loom)
            for told in [found, found[::-1], found + found, found[::-1] + found, found * 5]:
                self.assertIs(is_closed(loom, told), True)
                self.assertIs(is_closed(loom, tuple(told)), True)

    def test_a_list_that_lacks_a_rest_is_not_closed(self):
        for loom in LOOMS:
            found = closed(loom)
            for at in range(len(found)):
                self.assertIs(is_closed(loom, found[:at] + found[at + 1:]), False)

    def test_the_empty_list(self):
        for thing in [[], ()]:
            self.assertIs(is_closed(Loom("a", [(0, "a", 0)]), thing), True)
            self.assertIs(is_closed(ENDLESS, thing), False)

    def test_more_rests_than_those_that_come_of_starts(self):
        found = closed(ENDLESS)
        for more in [[(5, 6, "")], [(63, 0, "a" * 12)], [(5, 0, "b"), (7, 7, "b")], [(1, 2, ""), (2, 1, "")]]:
            self.assertIs(is_closed(ENDLESS, found + more), True)
            self.assertIs(is_closed(ENDLESS, more), False)
        # The steps of what stands in it have to stand in it, too.
        self.assertIs(is_closed(ENDLESS, found + [(0, 9, "abbb")]), False)
        loom = Loom("ab", [(0, "ab", 1), (1, "b", 2), (2, "aa", 2)])
        self.assertIs(is_closed(loom, [(0, 5, "abb"), (1, 5, "b"), (2, 5, "")]), False)
        told = [(0, 5, "abb"), (1, 5, "b"), (2, 5, ""), (5, 2, "aa")]
        self.assertIs(is_closed(loom, told), True)
        for at in range(1, 4):
            self.assertIs(is_closed(loom, told[:at] + told[at + 1:]), False)

    def test_a_rest_that_is_even_is_never_in_it(self):
        for state in [0, 1, 63]:
            for loom in LOOMS:
                self.assertIs(is_closed(loom, closed(loom) + [(state, state, "")]), False)
        self.assertIs(is_closed(Loom("a", [(0, "a", 0)]), [(5, 5, "")]), False)
        self.assertIs(is_closed(Loom("a", [(0, "a", 1), (0, "a", 1)]), [(1, 1, "")]), False)

    def test_no_list_of_a_loom_with_a_double_is_closed(self):
        for loom in [DOUBLE, Loom("a", [(0, "a", 1), (0, "a", 1)]), Loom("a", [(0, "a", 0), (0, "aa", 0)])]:
            found = rests(loom)
            self.assertIsNone(closed(loom))
            for thing in [found, [], [rest for rest in found if rest[0] != rest[1] or rest[2] != ""]]:
                self.assertIs(is_closed(loom, thing), False)

    def test_what_a_rest_has_to_be(self):
        loom = Loom("ab", [(0, "a", 1)])
        for item in [(5, 6, "a" * 12), (0, 63, ""), (63, 62, "ab")]:
            self.assertIs(is_closed(loom, [item]), item != (0, 63, ""))
        wrong = [
            (5, 6, "a" * 13), (64, 6, ""), (5, -1, ""), (True, 5, ""), (5, False, ""), (5, 6, "c"), (5, 6, None),
            (5.0, 6, ""), (5, 6, b""), [5, 6, ""], (5, 6), (5, 6, "", ""), ("5", 6, ""), (5, 6, "A"), (), "ab", 5,
            (5, 6, ["a"]), ([5], 6, ""), (5, 6, ("a",)), (5, 6, " "), (5, 6, "a\n"), {5: 6}, None,
        ]
        for item in wrong:
            self.assertIs(is_closed(loom, [item]), False, item)
            self.assertIs(is_closed(loom, ((5, 6, ""), item)), False, item)

    def test_booleans_that_equal_a_needed_rest(self):
        loom = Loom("ab", [(0, "a", 1), (0, "ab", 0)])
        self.assertIs(is_closed(loom, [(1, 0, "b")]), True)
        for item in [(True, 0, "b"), (1, False, "b"), (1.0, 0, "b")]:
            self.assertIs(is_closed(loom, [item]), False)
            self.assertIs(is_closed(loom, [(1, 0, "b"), item]), False)

    def test_things_of_all_kinds(self):
        empty = Loom("a", [(0, "a", 0)])
        for value in all_kinds():
            self.assertIs(is_closed(ENDLESS, value), False)
            self.assertIs(is_closed(empty, value), value.__class__ in (list, tuple) and len(value) == 0)
        for rows in [iter([(0, 0, "b")]), {(0, 0, "b")}, {(0, 0, "b"): 1}, {0: (0, 0, "b")}.values()]:
            self.assertIs(is_closed(ENDLESS, rows), False)

    def test_closed_lists_that_are_spoilt(self):
        for loom in [loom for loom in LOOMS if closed(loom)]:
            found = closed(loom)
            for thing in [found, tuple(found)]:
                told = check_judge(self, is_closed, plain_is_closed, loom, spoilt_inside(thing))
                self.assertGreater(told[False], 100)

    def test_lists_of_some_rests_against_a_plain_judge(self):
        chance = random.Random(23)
        told = Counter()
        for _ in range(400):
            loom, states = some_loom(chance)
            found = rests(loom)
            parts = ["", "a", "b", "ab", "ba", "aa", "x", "z"]
            more = [(chance.choice(states), chance.choice([5, *states]), chance.choice(parts)) for _ in range(2)]
            # A list that is closed together with more rests, and what remains of it without one.
            whole = found + more
            for rest in whole:
                whole += sorted(plain_steps(loom, rest) - set(whole))
            things = [found, found + more, whole] + [whole[:at] + whole[at + 1:] for at in range(len(whole))][-6:]
            told += check_judge(self, is_closed, plain_is_closed, loom, things)
        self.assertGreater(min(told.values()), 200)

    def test_things_are_not_changed(self):
        for thing in [[(0, 0, "b")], [[0, 0, "b"]], [(0, 0, "b"), (5, 6, "c")], [[], {}]]:
            kept = copy.deepcopy(thing)
            is_closed(ENDLESS, thing)
            self.assertEqual(thing, kept)


class GreatLooms(TimedCase):
    def test_very_many_rests(self):
        chance = random.Random(24)
        arcs = [(state, sign, chance.randrange(64)) for state in range(64) for sign in "ab"]
        words = ["".join(chance.choice("ab") for _ in range(12)) for _ in range(72)]
        loom = Loom("ab", arcs + [(chance.randrange(64), word, chance.randrange(64)) for word in words])
        found = rests(loom)
        self.assertGreater(len(found), 10000)
        self.assertEqual(set(found), plain_starts(loom).union(*[plain_steps(loom, rest) for rest in found]))
        self.assertIs(is_closed(loom, found), False)
        self.assertIsNone(closed(loom))

    def test_words_of_one_sign_only(self):
        chance = random.Random(25)
        words = ["a" * chance.randint(1, 12) for _ in range(200)]
        loom = Loom("a", [(chance.randrange(64), word, chance.randrange(64)) for word in words])
        found = rests(loom)
        self.assertGreater(len(found), 10000)
        self.assertLessEqual(set(found), {(one, two, "a" * many) for one in range(64) for two in range(64)
                                          for many in range(13)})
        self.assertIs(one_way(loom), False)

    def test_a_great_closed_list(self):
        arcs = [(0, "a", 1), (0, "a", 32)]
        arcs += [(state, "a", state % 31 + 1) for state in range(1, 32)]
        arcs += [(state, "a", (state - 31) % 32 + 32) for state in range(32, 64)]
        loom = Loom("a", arcs)
        found = closed(loom)
        self.assertEqual(len(found), 2 * 2 * 31 * 32)
        self.assertIs(is_closed(loom, found), True)
        self.assertIs(is_closed(loom, found[1:]), False)
        self.assertIs(is_closed(loom, found * 50), True)

    def test_two_hundred_equal_arcs(self):
        self.assertEqual(rests(Loom("a", [(0, "a", 0)] * 200)), [(0, 0, ""), (0, 0, "a")])
        self.assertEqual(rests(Loom("a", [(0, "a", 1)] * 200)), [(1, 1, "")])


if __name__ == "__main__":
    unittest.main()
