"""[70] and [71]: lists that grow and lists that shrink."""

import copy
import random
import unittest
from unittest import mock

from onewayread.cones import last_fit
from onewayread.errors import InvalidNumber, NotAWire
from onewayread.growth import grows, is_growing, is_shrinking, shrinks
from onewayread.looms import Loom, met
from onewayread.wires import rows_between, wire_of

from tests.helpers import TimedCase, all_kinds, check_error, check_new_list, no_integers, spoilt
from tests.plain_wires import EMPTY, FULL, GOLDEN, NO_WIRES, SHORT, WIRES, great_wire, plain_between, some_wire


def times(rows, numbers):
    return [sum(many * number for many, number in zip(row, numbers)) for row in rows]


def plain_is_list(thing, many, low):
    if thing.__class__ not in (list, tuple) or len(thing) != many:
        return False
    return all(item.__class__ is int and item >= low for item in thing)


def plain_is_growing(rows, choices, thing):
    if not plain_is_list(thing, len(rows), 0) or not any(thing):
        return False
    return all(brought >= choices * number for brought, number in zip(times(rows, thing), thing))


def plain_is_shrinking(rows, choices, thing):
    if not plain_is_list(thing, len(rows), 1):
        return False
    return all(brought < choices * number for brought, number in zip(times(rows, thing), thing))


def plain_remaining(rows, choices, top):
    """The steps of [71], at all places at once."""
    numbers = [top] * len(rows)
    lines = [[(goal, many) for goal, many in enumerate(row) if many] for row in rows]
    while True:
        further = [min(number, sum(many * numbers[goal] for goal, many in line) // choices)
                   for number, line in zip(numbers, lines)]
        if further == numbers:
            return numbers
        numbers = further


def plain_grows(rows, choices, last):
    """The list that remains of the first top up to the last one that leaves anything, or None."""
    top = 1
    while top <= last:
        numbers = plain_remaining(rows, choices, top)
        if any(numbers):
            return numbers
        top *= 2
    return None


def hill(up, down, begun=()):
    """A wire in which numbers have to double for so many states, and may halve for so many."""
    arcs = [(at, "a", at + 1) for at in range(up)]
    arcs += [(at, sign, (at + 1) % (up + down)) for at in range(up, up + down) for sign in "abcd"]
    return Loom("abcd", [*begun, *arcs])


def spoilt_hill(chance, most):
    """A hill of which some arcs lead elsewhere."""
    up = chance.randint(1, most)
    down = up + chance.randint(0, 3)
    many = up + down + chance.choice([0, 0, 1, 2])
    arcs = list(hill(up, down).arcs)
    for _ in range(chance.randint(0, 4)):
        at = chance.randrange(len(arcs))
        arcs[at] = (*arcs[at][:2], max(0, min(many - 1, arcs[at][2] + chance.randint(-3, 3))))
    for state in range(up + down, many):
        arcs += [(state, sign, chance.randrange(many)) for sign in chance.sample("abcd", chance.randint(1, 4))]
        arcs[0] = (0, "a", state) if chance.random() < 0.5 else arcs[0]
    return Loom("abcd", arcs[:200])


def border(wire, span):
    """The greatest number of choices of which a list grows; 0 if there is none."""
    low, high = 0, 65
    while high - low > 1:
        middle = (low + high) // 2
        if shrinks(wire, span, middle) is None:
            low = middle
        else:
            high = middle
    return low


class Judges(TimedCase):
    def test_lists_that_grow(self):
        self.assertIs(is_growing(GOLDEN, 5, 11, [5, 3]), True)
        self.assertIs(is_growing(GOLDEN, 5, 11, (8, 5)), True)
        self.assertIs(is_growing(GOLDEN, 5, 11, [1, 1]), False)
        self.assertIs(is_growing(GOLDEN, 5, 12, [5, 3]), False)
        self.assertIs(is_growing(GOLDEN, 3, 4, [2, 1]), True)
        self.assertIs(is_growing(SHORT, 1, 1, [0, 0, 1]), False)
        self.assertIs(is_growing(FULL, 1, 2, [1]), True)
        self.assertIs(is_growing(FULL, 1, 2, [10 ** 400]), True)
        self.assertIs(is_growing(FULL, 1, 3, [10 ** 400]), False)
        self.assertIs(is_growing(FULL, 6, 64, [1]), True)

    def test_not_all_may_be_nothing(self):
        self.assertIs(is_growing(GOLDEN, 1, 1, [0, 0]), False)
        self.assertIs(is_growing(FULL, 1, 1, [0]), False)
        self.assertIs(is_growing(Loom("ab", [(0, "a", 1), (1, "a", 1), (1, "b", 1)]), 1, 2, [0, 1]), True)
        self.assertIs(is_growing(Loom("ab", [(0, "a", 1), (1, "a", 1), (1, "b", 1)]), 1, 2, [1, 1]), False)

    def test_lists_that_shrink(self):
        self.assertIs(is_shrinking(GOLDEN, 1, 2, [3, 2]), True)
        self.assertIs(is_shrinking(GOLDEN, 1, 2, (5, 3)), True)
        self.assertIs(is_shrinking(GOLDEN, 1, 2, [1, 1]), False)
        self.assertIs(is_shrinking(GOLDEN, 1, 2, [2, 1]), False)
        self.assertIs(is_shrinking(FULL, 1, 2, [1]), False)
        self.assertIs(is_shrinking(FULL, 1, 3, [1]), True)
        self.assertIs(is_shrinking(EMPTY, 1, 1, [1]), True)
        self.assertIs(is_shrinking(EMPTY, 1, 1, [0]), False)
        self.assertIs(is_shrinking(EMPTY, 1, 1, [10 ** 400]), True)
        self.assertIs(is_shrinking(SHORT, 1, 1, [3, 1, 2]), True)
        self.assertIs(is_shrinking(SHORT, 1, 1, [2, 1, 2]), False)

    def test_one_item_for_each_met_state(self):
        for thing in [[], [8], [8, 5, 0], [8, 5, 3], (8, 5, 5)]:
            self.assertIs(is_growing(GOLDEN, 5, 11, thing), False)
            self.assertIs(is_shrinking(GOLDEN, 5, 12, thing), False)
        self.assertIs(is_growing(Loom("ab", [*FULL.arcs, (7, "a", 0)]), 1, 2, [1]), True)
        self.assertIs(is_growing(Loom("ab", [*FULL.arcs, (7, "a", 0)]), 1, 2, [1, 0]), False)

    def test_things_of_all_kinds(self):
        for value in all_kinds():
            for wire in [FULL, GOLDEN, EMPTY]:
                rows = plain_between(wire, 2)
                self.assertIs(is_growing(wire, 2, 2, value), plain_is_growing(rows, 2, value))
                self.assertIs(is_shrinking(wire, 2, 5, value), plain_is_shrinking(rows, 5, value))
            for thing in [[5, value], (value, 3), [value], [value, value]]:
                self.assertIs(is_growing(GOLDEN, 5, 11, thing), plain_is_growing(plain_between(GOLDEN, 5), 11, thing))
                self.assertIs(is_shrinking(GOLDEN, 1, 2, thing), plain_is_shrinking(plain_between(GOLDEN, 1), 2, thing))

    def test_against_plain_judges(self):
        chance = random.Random(70)
        told = [0, 0]
        for _ in range(600):
            wire, span, choices = some_wire(chance), chance.randint(1, 4), chance.randint(1, 8)
            rows = plain_between(wire, span)
            thing = chance.choice([list, tuple])(chance.choices(range(-1, 5), k=len(rows)))
            told[0] += is_growing(wire, span, choices, thing)
            told[1] += is_shrinking(wire, span, choices, thing)
            self.assertIs(is_growing(wire, span, choices, thing), plain_is_growing(rows, choices, thing))
            self.assertIs(is_shrinking(wire, span, choices, thing), plain_is_shrinking(rows, choices, thing))
        self.assertGreater(min(told), 30)

    def test_lists_that_are_spoilt(self):
        for thing in [[8, 5], (8, 5)]:
            for wrong in spoilt(thing):
                self.assertIs(is_growing(GOLDEN, 5, 11, wrong), plain_is_growing([[8, 5], [5, 3]], 11, wrong))
                self.assertIs(is_shrinking(GOLDEN, 5, 12, wrong), plain_is_shrinking([[8, 5], [5, 3]], 12, wrong))

    def test_things_are_not_changed(self):
        for thing in [[8, 5], [], [[8], 5], {8: [5]}]:
            kept = copy.deepcopy(thing)
            is_growing(GOLDEN, 5, 11, thing)
            is_shrinking(GOLDEN, 5, 12, thing)
            self.assertEqual(thing, kept)


class Lists(TimedCase):
    def test_lists(self):
        self.assertEqual([grows(GOLDEN, 1, 2), grows(GOLDEN, 2, 2), grows(GOLDEN, 3, 4), grows(GOLDEN, 5, 11)],
                         [None, [1, 1], [2, 1], [8, 5]])
        self.assertEqual(grows(Loom("ab", [(0, "a", 1), (1, "a", 1), (1, "b", 1)]), 1, 2), [0, 1])
        self.assertEqual(grows(FULL, 8, 64), [1])
        self.assertEqual(grows(EMPTY, 1, 1), None)
        self.assertEqual(grows(SHORT, 1, 1), None)
        self.assertEqual(grows(Loom("a", [(0, "a", 0)]), 8, 1), [1])

    def test_the_border(self):
        # A list of equal sums grows, and none shrinks.
        self.assertEqual([grows(FULL, 1, 2), shrinks(FULL, 1, 2)], [[1], None])
        self.assertEqual([grows(FULL, 6, 64), shrinks(FULL, 6, 64)], [[1], None])
        self.assertEqual([grows(hill(3, 3), 1, 2), shrinks(hill(3, 3), 1, 2)], [[1, 2, 4, 8, 4, 2], None])
        self.assertIsNone(grows(FULL, 1, 3))
        self.assertEqual(grows(FULL, 5, 32), [1])
        self.assertIsNone(grows(FULL, 5, 33))
        self.assertEqual([grows(wire_of("abcd", []), 3, 64), grows(wire_of("abc", []), 3, 28)], [[1], None])

    def test_spans_and_choices_at_their_ends(self):
        full = wire_of("abcd", [])
        for span in [1, 8]:
            for choices in [1, 64]:
                told = grows(full, span, choices)
                self.assertEqual(told, [1] if choices <= 4 ** span else None)
                self.assertIs(shrinks(full, span, choices) is None, told is not None)

    def test_just_one_of_both_is_none(self):
        chance = random.Random(71)
        told = {True: 0, False: 0}
        for _ in range(400):
            wire, span = some_wire(chance, 6), chance.randint(1, 5)
            rows = plain_between(wire, span)
            for choices in [chance.randint(1, 64), chance.randint(1, 6)]:
                found, other = grows(wire, span, choices), shrinks(wire, span, choices)
                self.assertIs(found is None, other is not None)
                told[found is None] += 1
                if found is None:
                    self.assertTrue(plain_is_shrinking(rows, choices, other))
                    self.assertIs(is_shrinking(wire, span, choices, other), True)
                else:
                    self.assertTrue(plain_is_growing(rows, choices, found))
                    self.assertIs(is_growing(wire, span, choices, found), True)
        self.assertGreater(min(told.values()), 100)

    def test_against_the_steps_one_by_one(self):
        chance = random.Random(72)
        tops = {}
        for _ in range(300):
            wire, span = some_wire(chance, 6), chance.randint(1, 8)
            last = border(wire, span)
            for choices in {max(1, last), max(1, last - 1), min(64, last + 1), (last + 1) // 2 or 1}:
                found = grows(wire, span, choices)
                self.assertIs(found is None, choices > last)
                if found is not None and max(found) < 2 ** 10:
                    self.assertEqual(found, plain_grows(rows_between(wire, span), choices, 2 ** 11))
                    tops[max(found).bit_length()] = tops.get(max(found).bit_length(), 0) + 1
        self.assertGreater(tops[1], 100)
        self.assertGreater(sum(many for length, many in tops.items() if length > 2), 20, tops)

    def test_hills_against_the_steps_one_by_one(self):
        chance = random.Random(73)
        tops = {}
        for _ in range(700):
            wire, span = spoilt_hill(chance, 8), chance.choice([1, 1, 2, 3])
            for choices in [2 ** span, 2 ** span - 1]:
                found = grows(wire, span, choices) if choices > 0 else None
                if found is not None:
                    self.assertLess(max(found), 2 ** 16)
                    self.assertEqual(found, plain_grows(rows_between(wire, span), choices, 2 ** 16))
                    tops[max(found).bit_length()] = tops.get(max(found).bit_length(), 0) + 1
        self.assertGreater(sum(many for length, many in tops.items() if length > 4), 50, tops)

    def test_longer_ways_down_against_the_steps_one_by_one(self):
        # Numbers that fall for long are lowered by ways of their own: here, these are taken at once.
        chance = random.Random(77)
        tops = {}
        with mock.patch("onewayread.falls.PATIENCE", -100):
            for at in range(1500):
                wire, span = spoilt_hill(chance, 6), chance.choice([1, 1, 2, 3])
                last = 2 ** span
                if at % 3 == 0:
                    wire, span = some_wire(chance, 6), chance.randint(1, 6)
                    last = border(wire, span)
                for choices in {last, max(1, last - 1)}:
                    found = grows(wire, span, choices) if choices > 0 else None
                    if found is not None and max(found) < 2 ** 12:
                        self.assertEqual(found, plain_grows(rows_between(wire, span), choices, 2 ** 12))
                        tops[max(found).bit_length()] = tops.get(max(found).bit_length(), 0) + 1
        self.assertGreater(sum(many for length, many in tops.items() if length > 4), 100, tops)

    def test_great_wires_against_the_steps_one_by_one(self):
        chance = random.Random(74)
        for signs, arcs in [("ab", 128), ("ab", 90), ("abcd", 200), ("abcd", 120), ("abc", 180)]:
            wire = great_wire(chance, signs=signs, arcs=arcs)
            for span in [1, 3, 8]:
                last = border(wire, span)
                rows = rows_between(wire, span)
                for choices in {last, max(1, last - 1)}:
                    found = grows(wire, span, choices)
                    self.assertEqual(found, plain_grows(rows, choices, max(found) * 2))
                if last < 64:
                    self.assertTrue(plain_is_shrinking(rows, last + 1, shrinks(wire, span, last + 1)))

    def test_the_list_that_remains_is_the_greatest_one(self):
        chance = random.Random(75)
        for _ in range(100):
            wire, span, choices = some_wire(chance, 3), chance.randint(1, 3), chance.randint(1, 4)
            found = grows(wire, span, choices)
            if found is not None and max(found) <= 4:
                top = next(top for top in [1, 2, 4] if top >= max(found))
                rows = plain_between(wire, span)
                for _ in range(50):
                    other = [chance.randint(0, top) for _ in rows]
                    if plain_is_growing(rows, choices, other):
                        self.assertTrue(all(number <= most for number, most in zip(other, found)))

    def test_new_lists_on_each_call(self):
        check_new_list(self, grows, GOLDEN, 5, 11)
        check_new_list(self, shrinks, GOLDEN, 5, 12)


class GreatTops(TimedCase):
    def test_numbers_that_double(self):
        for up in [1, 7, 20, 31]:
            told = [2 ** at for at in range(up)] + [2 ** (up - at) for at in range(up)]
            self.assertEqual(grows(hill(up, up), 1, 2), told)
            self.assertIsNone(shrinks(hill(up, up), 1, 2))

    def test_hills_that_come_down_too_soon(self):
        wire = hill(31, 30)
        self.assertIsNone(grows(wire, 1, 2))
        told = shrinks(wire, 1, 2)
        self.assertTrue(plain_is_shrinking(plain_between(wire, 1), 2, told))
        self.assertGreater(max(told), 2 ** 30)

    def test_hills_that_hardly_come_down(self):
        # One arc more or less of the last state decides: at the top, the hill loses or gains a little.
        for up in [5, 12, 25]:
            arcs = list(hill(up, up).arcs)
            for at in range(up, 2 * up - 1):
                for goal in [at, at + 1, (at + 2) % (2 * up)]:
                    place = arcs.index((at, "d", at + 1))
                    wire = Loom("abcd", [*arcs[:place], (at, "d", goal), *arcs[place + 1:]])
                    found, other = grows(wire, 1, 2), shrinks(wire, 1, 2)
                    self.assertIs(found is None, other is not None)
                    rows = plain_between(wire, 1)
                    if found is None:
                        self.assertTrue(plain_is_shrinking(rows, 2, other))
                    else:
                        self.assertTrue(plain_is_growing(rows, 2, found))
                        if up == 5:
                            self.assertEqual(found, plain_grows(rows, 2, 2 ** 20))

    def test_what_leads_to_a_hill(self):
        # State 63 leads to the hill, which does not lead back; 62 goes round and leads there, too.
        begun = [(0, "b", 62), (62, "a", 63), (62, "b", 62), (63, "a", 5), (63, "b", 6), (63, "c", 20)]
        wire = hill(20, 20, begun)
        self.assertEqual(met(wire)[-2:], [62, 63])
        found = grows(wire, 1, 2)
        self.assertTrue(plain_is_growing(plain_between(wire, 1), 2, found))
        small = hill(5, 5, [(0, "b", 62), (62, "a", 63), (62, "b", 62), (63, "a", 3), (63, "b", 4), (63, "c", 5)])
        self.assertEqual(grows(small, 1, 2), plain_grows(plain_between(small, 1), 2, 2 ** 12))

    def test_rows_of_several_signs(self):
        for span, choices in [(2, 4), (3, 8), (5, 32), (6, 64)]:
            wire = hill(24, 24)
            found = grows(wire, span, choices)
            rows = rows_between(wire, span)
            self.assertTrue(plain_is_growing(rows, choices, found))
            self.assertIsNone(shrinks(wire, span, choices))
            if choices < 64:
                self.assertIsNone(grows(wire, span, choices + 1))
                self.assertTrue(plain_is_shrinking(rows, choices + 1, shrinks(wire, span, choices + 1)))

    def test_the_last_number_that_fits(self):
        chance = random.Random(76)
        for _ in range(3000):
            low = chance.randint(0, 60), chance.randint(1, 20)
            high = low[0] * 20 + chance.randint(0, 40), low[1] * 20
            most = chance.randint(0, 60)
            fits = [number for number in range(most + 1)
                    if -(-number * low[0] // low[1]) <= number * high[0] // high[1]]
            self.assertEqual(last_fit(low, high, most), max(fits))


class Errors(TimedCase):
    def check(self, kind, *arguments):
        check_error(self, kind, [], grows, *arguments)
        check_error(self, kind, [], shrinks, *arguments)
        for thing in [[1], [8, 5], None]:
            check_error(self, kind, [], is_growing, *arguments, thing)
            check_error(self, kind, [], is_shrinking, *arguments, thing)

    def test_wrong_spans_and_choices(self):
        for span in no_integers(1, 8):
            self.check(InvalidNumber, GOLDEN, span, 2)
            self.check(InvalidNumber, EMPTY, span, None)
        for choices in no_integers(1, 64):
            self.check(InvalidNumber, GOLDEN, 8, choices)
            self.check(InvalidNumber, EMPTY, 1, choices)

    def test_looms_that_are_no_wires(self):
        for loom in NO_WIRES:
            for span, choices in [(1, 2), (0, 2), (1, 65), (None, None), (9, True)]:
                self.check(NotAWire, loom, span, choices)

    def test_no_limit_is_raised_for_what_is_right(self):
        for wire in WIRES:
            for span, choices in [(1, 1), (8, 64), (1, 64), (8, 1)]:
                self.assertNotEqual(grows(wire, span, choices) is None, shrinks(wire, span, choices) is None)


if __name__ == "__main__":
    unittest.main()
