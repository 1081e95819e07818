"""[10] and [11]: looms, their errors, the arcs that leave a state, and the met states."""

import copy
import unittest

from onewayread.errors import InvalidLoom, UnknownState
from onewayread.looms import Loom, leaving, met

from tests.helpers import TimedCase, all_kinds, check_error, check_new_list
from tests.helpers import is_state, is_string_over, no_sequences, no_states

ARC = (0, "a", 0)


class Making(TimedCase):
    def test_signs_and_arcs_are_kept(self):
        loom = Loom("ab", [(0, "a", 1), (1, "ba", 0)])
        self.assertEqual(loom.signs, "ab")
        self.assertEqual(loom.arcs, ((0, "a", 1), (1, "ba", 0)))
        self.assertEqual({arc.__class__ for arc in loom.arcs}, {tuple})

    def test_arcs_may_come_as_a_tuple(self):
        self.assertEqual(Loom("a", (ARC, ARC)).arcs, (ARC, ARC))

    def test_one_to_four_signs(self):
        for signs in ["a", "z", "az", "ab", "bc", "xyz", "abc", "abcd", "wxyz", "agmz"]:
            self.assertEqual(Loom(signs, [(0, signs, 0)]).signs, signs)

    def test_not_all_signs_have_to_stand_in_words(self):
        self.assertEqual(Loom("abcd", [(5, "b", 5)]).signs, "abcd")

    def test_one_to_two_hundred_arcs(self):
        for many in [1, 2, 199, 200]:
            self.assertEqual(Loom("a", [ARC] * many).arcs, (ARC,) * many)

    def test_words_of_one_to_twelve_signs(self):
        for length in range(1, 13):
            self.assertEqual(Loom("a", [(0, "a" * length, 0)]).arcs[0][1], "a" * length)

    def test_states_from_0_to_63(self):
        arcs = [(state, "a", 63 - state) for state in range(64)]
        self.assertEqual(Loom("a", arcs).arcs, tuple(arcs))

    def test_equal_arcs_keep_their_numbers_and_their_order(self):
        arcs = ((3, "b", 0), ARC, (3, "b", 0), ARC)
        self.assertEqual(Loom("ab", arcs).arcs, arcs)

    def test_the_handed_list_is_neither_kept_nor_changed(self):
        arcs = [ARC, (0, "b", 2)]
        kept = copy.deepcopy(arcs)
        loom = Loom("ab", arcs)
        self.assertEqual(arcs, kept)
        arcs.append((1, "b", 1))
        arcs[0] = (7, "b", 7)
        self.assertEqual(loom.arcs, tuple(kept))


class Equality(TimedCase):
    def test_equal_where_signs_and_arcs_are(self):
        one, other = Loom("ab", [ARC, (1, "b", 0)]), Loom("ab", (ARC, (1, "b", 0)))
        self.assertTrue(one == other)
        self.assertFalse(one != other)

    def test_unlike_where_either_is(self):
        loom = Loom("ab", [ARC, (1, "b", 0)])
        others = [
            Loom("abc", [ARC, (1, "b", 0)]), Loom("ab", [ARC]), Loom("ab", [ARC, (1, "b", 0), ARC]),
            Loom("ab", [(1, "b", 0), ARC]), Loom("ab", [ARC, (1, "b", 1)]), Loom("ab", [ARC, (0, "b", 0)]),
            Loom("ab", [ARC, (1, "a", 0)]),
        ]
        for other in others:
            self.assertFalse(loom == other)
            self.assertTrue(loom != other)

    def test_unlike_what_is_no_loom(self):
        loom = Loom("c", [(9, "c", 9)])
        for value in all_kinds():
            self.assertFalse(loom == value)
            self.assertTrue(loom != value)


class WrongSigns(TimedCase):
    def check(self, signs, arcs):
        check_error(self, InvalidLoom, ["signs", -1], Loom, signs, arcs)

    def test_strings_that_are_no_signs(self):
        wrong = ["", "aa", "ba", "abb", "acb", "bab", "abcde", "A", "aB", "AB", "0", "a b", " ", "a ", " a", "-", "a-"]
        wrong += ["a\n", "\n", "~", "{", "`", "a{", "`a", "abc~", "z" * 5, "abcdefghijklmnopqrstuvwxyz"]
        for signs in wrong:
            with self.subTest(signs=signs):
                self.check(signs, [ARC])

    def test_what_is_no_string(self):
        for value in all_kinds():
            if not isinstance(value, str):
                self.check(value, [ARC])
        for value in [["a"], ("a",), ["a", "b"], {"a": 0}, {"a"}, b"a", [97]]:
            self.check(value, [ARC])

    def test_signs_come_ahead_of_arcs(self):
        for arcs in [[], None, [ARC] * 201, [None], [ARC, (0, "", 0)], "ab"]:
            self.check("ba", arcs)
            self.check(None, arcs)


class WrongArcs(TimedCase):
    def check(self, at, arcs, signs="ab"):
        kept = copy.copy(arcs) if isinstance(arcs, list) else None
        check_error(self, InvalidLoom, ["arcs", at], Loom, signs, arcs)
        if kept is not None:
            self.assertEqual([id(item) for item in arcs], [id(item) for item in kept])

    def test_none_and_too_many(self):
        for arcs in [[], (), [ARC] * 201, (ARC,) * 201, [ARC] * 1000]:
            self.check(-1, arcs)

    def test_too_many_come_ahead_of_a_wrong_item(self):
        self.check(-1, [None] + [ARC] * 200)
        self.check(-1, [None] * 201)

    def test_what_is_no_list_or_tuple(self):
        for value in no_sequences():
            self.check(-1, value)

    def test_a_dict_and_a_set_of_arcs_and_iterators(self):
        for arcs in [{ARC: 0}, {ARC}, frozenset([ARC]), iter([ARC]), (arc for arc in [ARC]), {0: ARC}.values()]:
            self.check(-1, arcs)

    def test_items_of_the_wrong_kind(self):
        for value in all_kinds():
            if not isinstance(value, tuple) or value != ARC:
                self.check(0, [value])
                self.check(0, (value, ARC))
                self.check(2, [ARC, ARC, value, ARC])

    def test_items_that_are_no_tuples_of_three(self):
        wrong = [[0, "a", 0], (), (0,), (0, "a"), (0, "a", 0, 0), (("a", 0), 0), "0a0", {0: 0, "a": 1, 1: 2}]
        for item in wrong:
            self.check(1, [ARC, item])

    def test_states_that_are_none(self):
        for value in no_states():
            self.check(0, [(value, "a", 0)])
            self.check(1, [ARC, (0, "a", value)])

    def test_the_edges_of_states(self):
        for state in [-1, 64, 65, 200, 10 ** 20, -(10 ** 20)]:
            self.check(0, [(state, "a", 0)])
            self.check(0, [(0, "a", state)])

    def test_booleans_are_no_states(self):
        for flag in [True, False]:
            self.check(0, [(flag, "a", 0)])
            self.check(0, [(0, "a", flag)])

    def test_words_that_are_none(self):
        for value in all_kinds():
            if not is_string_over("ab", value, 1, 12):
                self.check(0, [(0, value, 0)])
                self.check(1, [ARC, (0, value, 0), (0, "", 0)])

    def test_the_edges_of_words(self):
        for word in ["", "a" * 13, "a" * 100, "c", "abc", "A", "aA", "a ", " a", "a\n", "\n"]:
            self.check(0, [(0, word, 0)])
        self.check(0, [(0, "b", 0)], signs="a")
        self.check(0, [(0, "b", 0)], signs="ac")

    def test_the_index_is_that_of_the_first_wrong_item(self):
        self.check(1, [ARC, (0, "c", 0), (64, "a", 0), None])
        self.check(199, [ARC] * 199 + [(0, "a", 64)])
        self.check(0, [(0, "a", 64)] * 200)

    def test_the_indices_are_told_for_each_part(self):
        for item in [(64, "a", 0), (0, "c", 0), (0, "a", 64)]:
            for at in range(4):
                self.check(at, [ARC] * at + [item] + [ARC] * (3 - at))


class Leaving(TimedCase):
    def setUp(self):
        super().setUp()
        self.loom = Loom("ab", [(1, "a", 0), (0, "b", 63), (1, "a", 0), (63, "a", 5), (0, "ab", 0), (1, "b", 1)])

    def test_ascending_numbers(self):
        self.assertEqual(leaving(self.loom, 0), [1, 4])
        self.assertEqual(leaving(self.loom, 1), [0, 2, 5])
        self.assertEqual(leaving(self.loom, 63), [3])

    def test_states_without_arcs(self):
        for state in [2, 5, 62]:
            self.assertEqual(leaving(self.loom, state), [])

    def test_all_arcs_may_leave_one_state(self):
        self.assertEqual(leaving(Loom("a", [ARC] * 200), 0), list(range(200)))

    def test_a_state_that_is_none(self):
        for value in no_states():
            check_error(self, UnknownState, [], leaving, self.loom, value)
        for state in range(64):
            self.assertTrue(is_state(state))
            self.assertIsInstance(leaving(self.loom, state), list)

    def test_a_new_list_on_each_call(self):
        for state in [0, 1, 2]:
            check_new_list(self, leaving, self.loom, state)


class Met(TimedCase):
    def test_0_is_always_counted(self):
        self.assertEqual(met(Loom("a", [(1, "a", 2), (2, "a", 0)])), [0])
        self.assertEqual(met(Loom("a", [ARC])), [0])

    def test_along_arcs_and_not_against_them(self):
        loom = Loom("ab", [(0, "a", 9), (9, "b", 4), (3, "a", 4), (4, "a", 9), (5, "b", 0)])
        self.assertEqual(met(loom), [0, 4, 9])

    def test_ascending_whatever_the_order_of_the_arcs(self):
        arcs = [(0, "a", 63), (63, "a", 2), (2, "a", 40), (40, "a", 1), (40, "b", 62)]
        self.assertEqual(met(Loom("ab", arcs)), [0, 1, 2, 40, 62, 63])
        self.assertEqual(met(Loom("ab", arcs[::-1])), [0, 1, 2, 40, 62, 63])

    def test_all_states_in_a_chain_both_ways(self):
        chain = [(state, "a", (state + 1) - 64 * (state == 63)) for state in range(64)]
        self.assertEqual(met(Loom("a", chain)), list(range(64)))
        self.assertEqual(met(Loom("a", [(b, w, a) for a, w, b in chain][::-1])), list(range(64)))

    def test_arcs_on_from_what_is_found_late(self):
        self.assertEqual(met(Loom("a", [(2, "a", 3), (1, "a", 2), (0, "a", 1), (8, "a", 7)])), [0, 1, 2, 3])

    def test_a_new_list_on_each_call(self):
        check_new_list(self, met, Loom("a", [(0, "a", 1), (1, "a", 2)]))


if __name__ == "__main__":
    unittest.main()
