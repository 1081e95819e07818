"""[60] to [62]: wires, the wires of bars, least wires and what parts two of them."""

import copy
import random
import unittest

from onewayread.books import book
from onewayread.errors import InvalidBars, InvalidLoom, NotAWire, NothingLeft, Unlike
from onewayread.looks import look
from onewayread.looms import Loom, met
from onewayread.rests import one_way
from onewayread.wires import is_wire, least, many, parted, rows_between, wire_of

from tests.helpers import TimedCase, all_kinds, check_error, is_string_over, no_sequences, no_signs
from tests.plain_search import some_loom
from tests.plain_wires import (
    EMPTY, FULL, GOLDEN, NO_WIRES, SHORT, WIRES, great_wire, is_in_order, plain_end, plain_endless, plain_fewest,
    plain_is_wire, plain_lets, plain_parted, plain_same, some_wire,
)


def some_bars(chance, signs):
    return ["".join(chance.choice(signs) for _ in range(chance.randint(1, 4))) for _ in range(chance.randint(0, 8))]


class IsWire(TimedCase):
    def test_wires(self):
        for wire in WIRES:
            self.assertIs(is_wire(wire), True)
        self.assertIs(is_wire(book("abcd", ["c", "a", "d", "b"])), True)
        self.assertIs(is_wire(Loom("ab", [(0, "a", 1), (1, "a", 1), (2, "a", 1)])), True)

    def test_looms_that_are_none(self):
        for loom in NO_WIRES:
            self.assertIs(is_wire(loom), False)

    def test_things_of_all_kinds(self):
        for value in all_kinds():
            self.assertIs(is_wire(value), plain_is_wire(value))
        for thing in [FULL.arcs, list(FULL.arcs), [FULL], (FULL,), {"wire": FULL}, Loom]:
            self.assertIs(is_wire(thing), False)

    def test_against_a_plain_judge(self):
        chance = random.Random(60)
        told = {True: 0, False: 0}
        for _ in range(1500):
            loom, _ = some_loom(chance)
            answer = is_wire(loom)
            self.assertIs(answer, plain_is_wire(loom))
            told[answer] += 1
        self.assertGreater(min(told.values()), 100)

    def test_the_greatest_wire(self):
        wire = great_wire(random.Random(601))
        self.assertEqual(len(wire.arcs), 200)
        self.assertIs(is_wire(wire), True)
        self.assertIs(is_wire(Loom("abcd", [*wire.arcs[:199], wire.arcs[0]])), False)
        self.assertIs(is_wire(Loom("abcd", [*wire.arcs[:199], (63, "ab", 0)])), False)

    def test_wires_are_one_way_and_have_no_look_ahead(self):
        chance = random.Random(602)
        for _ in range(50):
            wire = some_wire(chance)
            self.assertEqual([one_way(wire), look(wire)], [True, 0])


class WireOf(TimedCase):
    def check(self, signs, bars, arcs):
        made = wire_of(signs, bars)
        self.assertEqual((made.signs, made.arcs), (signs, arcs))
        self.assertEqual(wire_of(signs, tuple(bars)), made)

    def test_wires(self):
        self.check("ab", ["bb"], ((0, "a", 0), (0, "b", 1), (1, "a", 0)))
        self.check("ab", ["aa"], ((0, "a", 1), (0, "b", 0), (1, "b", 0)))
        self.check("ab", ["b"], ((0, "a", 0),))
        self.check("ab", ["ab"], ((0, "a", 1), (0, "b", 0), (1, "a", 1)))
        self.check("abc", ["ab", "bc", "ca", "ac", "cb", "ba"],
                   ((0, "a", 1), (0, "b", 2), (0, "c", 3), (1, "a", 1), (2, "b", 2), (3, "c", 3)))
        self.check("ab", ["bbb"], ((0, "a", 0), (0, "b", 1), (1, "a", 0), (1, "b", 2), (2, "a", 0)))

    def test_no_bars(self):
        self.check("a", [], ((0, "a", 0),))
        self.check("ab", [], ((0, "a", 0), (0, "b", 0)))
        self.check("wxyz", [], ((0, "w", 0), (0, "x", 0), (0, "y", 0), (0, "z", 0)))

    def test_bars_again_and_within_one_another(self):
        for bars in [["bb"] * 8, ["bb", "abb", "bbb", "bb"], ["abba", "bb"], ["bb", "bbbb", "abb", "bba", "bbab"]]:
            self.assertEqual(wire_of("ab", bars), GOLDEN)

    def test_what_cannot_be_gone_on_with_is_not_let(self):
        # Behind "b" nothing is allowed, so "b" itself is not let.
        self.check("ab", ["ba", "bb"], ((0, "a", 0),))
        self.check("abc", ["ba", "bb", "bca", "bcb", "bcc", "cc"],
                   ((0, "a", 0), (0, "c", 1), (1, "a", 0)))
        self.assertEqual(parted(wire_of("ab", ["ba", "bb"]), Loom("ab", [(0, "a", 0), (0, "b", 1)])), "b")

    def test_nothing_left(self):
        for signs, bars in [("a", ["a"]), ("a", ["aaaa"]), ("ab", ["a", "b"]), ("ab", ["a", "bb"]),
                            ("ab", ["aa", "bb", "aba", "bab"]), ("abcd", ["a", "b", "c", "d"]),
                            ("ab", ["aa", "bbb", "abab", "babb", "babb", "bbab", "baba", "abba"])]:
            check_error(self, NothingLeft, ["wire"], wire_of, signs, bars)

    def test_eight_and_nine_bars(self):
        eight = ["aaaa", "bbbb", "abab", "baba", "aabb", "bbaa", "abbb", "baaa"]
        self.assertEqual(is_wire(wire_of("ab", eight)), True)
        check_error(self, InvalidBars, [-1], wire_of, "ab", [*eight, "abba"])
        check_error(self, InvalidBars, [-1], wire_of, "ab", ("bb",) * 9)
        check_error(self, InvalidBars, [-1], wire_of, "ab", ["", "c", None] * 3)

    def test_bars_of_four_and_five_signs(self):
        self.assertEqual(len(met(wire_of("ab", ["bbbb"]))), 4)
        check_error(self, InvalidBars, [0], wire_of, "ab", ["bbbbb"])
        check_error(self, InvalidBars, [2], wire_of, "ab", ["bbbb", "a", "abbbb", "bbbbb"])

    def test_against_a_slow_search_over_short_texts(self):
        chance = random.Random(61)
        nothing = 0
        for _ in range(400):
            signs = chance.choice(["a", "ab", "ab", "ab", "abc", "wxyz"])
            bars = some_bars(chance, signs)
            length = {1: 8, 2: 7, 3: 5, 4: 4}[len(signs)]
            texts = plain_endless(signs, bars, length)
            if not texts:
                nothing += 1
                check_error(self, NothingLeft, ["wire"], wire_of, signs, bars)
            else:
                made = wire_of(signs, bars)
                self.assertEqual(plain_lets(made, length), texts)
                self.assertEqual(least(made), made)
                self.assertEqual({state for state, _, _ in made.arcs}, set(met(made)))
        self.assertGreater(nothing, 20)

    def test_wrong_signs(self):
        for signs in no_signs():
            for bars in [["a"], [], None, ["", 0], ["a"] * 9]:
                check_error(self, InvalidLoom, ["signs", -1], wire_of, signs, bars)

    def test_wrong_bars(self):
        for bars in no_sequences():
            check_error(self, InvalidBars, [-1], wire_of, "ab", bars)
            check_error(self, InvalidBars, [-1], wire_of, "a", bars)
        for item in all_kinds() + ["", "c", "aB", "ab ", "abba\n", "\n", "bbbbb"]:
            if not is_string_over("ab", item, 1, 4):
                for bars in [[item], (item,), ["a", item, item], ["a", "b", "ab", "a", "b", "bb", "aa", item]]:
                    first = next(at for at, bar in enumerate(bars) if bar is item)
                    check_error(self, InvalidBars, [first], wire_of, "ab", bars)

    def test_wrong_bars_come_ahead_of_nothing_left(self):
        check_error(self, InvalidBars, [1], wire_of, "a", ["a", "b"])
        check_error(self, InvalidBars, [2], wire_of, "ab", ["a", "b", ""])

    def test_bars_are_not_changed(self):
        bars = ["bb", "aba", "bb"]
        made = wire_of("ab", bars)
        self.assertEqual(bars, ["bb", "aba", "bb"])
        bars.append("a")
        self.assertEqual(wire_of("ab", ["bb", "aba"]), made)


class Least(TimedCase):
    def check(self, wire, arcs):
        made = least(wire)
        self.assertEqual((made.signs, made.arcs), (wire.signs, arcs))

    def test_least_wires(self):
        self.check(GOLDEN, GOLDEN.arcs)
        self.check(Loom("ab", [(0, "b", 5), (0, "a", 9), (9, "a", 0), (5, "b", 9), (5, "a", 0), (9, "b", 9)]),
                   ((0, "a", 0), (0, "b", 0)))
        self.check(Loom("ab", [(0, "b", 7), (7, "a", 7)]), ((0, "b", 1), (1, "a", 1)))
        self.check(Loom("ab", [(0, "b", 9), (0, "a", 3), (3, "b", 3), (9, "a", 3)]),
                   ((0, "a", 1), (0, "b", 2), (1, "b", 1), (2, "a", 1)))

    def test_a_state_without_arcs(self):
        self.check(SHORT, ((0, "b", 1), (1, "a", 2)))
        self.check(Loom("ab", [(0, "b", 4), (0, "a", 2)]), ((0, "a", 1), (0, "b", 1)))
        self.check(Loom("a", [(0, "a", 63)]), ((0, "a", 1),))

    def test_states_that_are_not_met(self):
        self.check(Loom("ab", [(1, "a", 0), (0, "a", 0), (2, "b", 1), (1, "b", 2)]), ((0, "a", 0),))

    def test_no_arc_is_left(self):
        check_error(self, NothingLeft, ["wire"], least, EMPTY)
        check_error(self, NothingLeft, ["wire"], least, Loom("a", [(63, "a", 0)]))

    def test_a_chain_of_all_states(self):
        chain = Loom("ab", [(state, "a", state + 1) for state in range(63)] + [(63, "b", 0)])
        self.check(chain, chain.arcs)
        chain = Loom("a", [(state, "a", (state + 1) % 64) for state in range(64)])
        self.check(chain, ((0, "a", 0),))

    def test_against_walks_over_pairs_of_states(self):
        chance = random.Random(62)
        fewer = 0
        for _ in range(500):
            wire = some_wire(chance, 6)
            if not [arc for arc in wire.arcs if arc[0] == 0]:
                check_error(self, NothingLeft, ["wire"], least, wire)
                continue
            made = least(wire)
            self.assertEqual([is_wire(made), plain_same(wire, made), is_in_order(made)], [True, True, True])
            self.assertEqual(len(met(made)), plain_fewest(wire))
            self.assertEqual(max(met(made)), len(met(made)) - 1)
            self.assertEqual(least(made), made)
            fewer += len(met(made)) < len(met(wire))
        self.assertGreater(fewer, 50)

    def test_great_wires(self):
        chance = random.Random(620)
        for signs in ["ab", "abcd"]:
            wire = great_wire(chance, signs=signs, arcs=100)
            made = least(wire)
            self.assertTrue(plain_same(wire, made) and is_in_order(made))
        # Each of 32 states twice.
        half = great_wire(chance, many=32, arcs=100)
        arcs = [(state + 32 * turn, sign, goal + 32 * ((turn + place) % 2))
                for place, (state, sign, goal) in enumerate(half.arcs) for turn in range(2)]
        self.assertEqual(least(Loom("abcd", arcs)), least(half))

    def test_the_wire_is_not_changed(self):
        wire = Loom("ab", [(0, "b", 5), (0, "a", 9), (9, "a", 0)])
        least(wire)
        self.assertEqual(wire, Loom("ab", [(0, "b", 5), (0, "a", 9), (9, "a", 0)]))


class Parted(TimedCase):
    def test_parted(self):
        self.assertEqual(parted(GOLDEN, wire_of("ab", ["bbb"])), "bb")
        self.assertEqual(parted(wire_of("ab", ["bbb"]), GOLDEN), "bb")
        self.assertIsNone(parted(GOLDEN, wire_of("ab", ["bb", "abb"])))
        self.assertEqual(parted(FULL, EMPTY), "a")
        self.assertEqual(parted(SHORT, EMPTY), "b")
        self.assertEqual(parted(SHORT, FULL), "a")
        self.assertEqual(parted(Loom("a", [(0, "a", 0)]), Loom("a", [(0, "a", 1)])), "aa")

    def test_wires_that_let_the_empty_text_only(self):
        self.assertIsNone(parted(EMPTY, EMPTY))
        self.assertIsNone(parted(EMPTY, Loom("ab", [(63, "b", 0)])))

    def test_long_texts(self):
        ring = Loom("a", [(state, "a", (state + 1) % 64) for state in range(64)])
        self.assertIsNone(parted(ring, Loom("a", [(0, "a", 0)])))
        self.assertEqual(parted(ring, Loom("a", [(state, "a", state + 1) for state in range(63)])), "a" * 64)
        one = Loom("ab", [(state, "a", (state + 1) % 64) for state in range(64)] + [(0, "b", 0)])
        other = Loom("ab", [(state, "a", (state + 1) % 63) for state in range(63)] + [(0, "b", 0)])
        self.assertEqual(parted(one, other), "a" * 63 + "b")
        both = [(state, sign, state + 1) for state in range(63) for sign in "ab"]
        self.assertEqual(parted(Loom("ab", both), FULL), "a" * 64)
        self.assertEqual(parted(Loom("ab", both[:-2]), Loom("ab", both[:-1])), "a" * 63)
        self.assertEqual(parted(Loom("ab", both[:-2]), Loom("ab", both[:-2] + both[-1:])), "a" * 62 + "b")

    def test_against_a_search_over_short_texts(self):
        chance = random.Random(63)
        told = {}
        for _ in range(600):
            one = some_wire(chance, 5)
            at = chance.randrange(len(one.arcs))
            arcs = [*one.arcs[:at], (*one.arcs[at][:2], chance.choice(one.arcs)[2]), *one.arcs[at + 1:]]
            other = chance.choice([Loom(one.signs, arcs), some_wire(chance, 4, one.signs)])
            text = parted(one, other)
            self.assertEqual(parted(other, one), text)
            self.assertIs(text is None, plain_same(one, other))
            if text is not None and len(text) <= 5:
                self.assertEqual(plain_parted(one, other, len(text)), text)
            elif text is not None:
                self.assertNotEqual(plain_end(one, 0, text) is None, plain_end(other, 0, text) is None)
            told[text and len(text)] = told.get(text and len(text), 0) + 1
        for length in [None, 1, 2, 3]:
            self.assertGreater(told[length], 10, told)

    def test_it_is_none_exactly_if_the_least_wires_are_equal(self):
        chance = random.Random(630)
        same = 0
        for _ in range(400):
            one = some_wire(chance, 3, "ab")
            other = some_wire(chance, 3, "ab")
            if all(any(arc[0] == 0 for arc in wire.arcs) for wire in [one, other]):
                self.assertIs(parted(one, other) is None, least(one) == least(other))
                self.assertIsNone(parted(one, least(one)))
                same += least(one) == least(other)
        self.assertGreater(same, 10)

    def test_great_wires(self):
        chance = random.Random(631)
        for signs in ["ab", "abcd"]:
            one = great_wire(chance, signs=signs, arcs=120)
            self.assertIsNone(parted(one, least(one)))
            arcs = [(state, sign, goal) for state, sign, goal in one.arcs if (state, sign, goal) != one.arcs[0]]
            self.assertIs(parted(one, Loom(signs, arcs)) is None, plain_same(one, Loom(signs, arcs)))

    def test_errors_in_their_order(self):
        for loom in NO_WIRES:
            for other in [GOLDEN, Loom("xyz", [(0, "x", 0)]), *NO_WIRES]:
                check_error(self, NotAWire, [], parted, loom, other)
                check_error(self, NotAWire, [], parted, other, loom)
        for other in [Loom("a", [(0, "a", 0)]), Loom("abc", GOLDEN.arcs), Loom("ac", [(0, "a", 0)])]:
            check_error(self, Unlike, [], parted, GOLDEN, other)
            check_error(self, Unlike, [], parted, other, GOLDEN)


class Errors(TimedCase):
    def test_looms_that_are_no_wires(self):
        for loom in NO_WIRES:
            check_error(self, NotAWire, [], least, loom)
            for value in [0, 1, 301, None, "a", True]:
                check_error(self, NotAWire, [], many, loom, value)
                check_error(self, NotAWire, [], rows_between, loom, value)

    def test_looms_are_not_changed(self):
        for wire in WIRES + NO_WIRES:
            kept = copy.deepcopy(wire)
            is_wire(wire)
            self.assertEqual((wire.signs, wire.arcs), (kept.signs, kept.arcs))


if __name__ == "__main__":
    unittest.main()
