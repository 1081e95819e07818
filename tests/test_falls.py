"""The parts behind grows: exchanges of rows, cones, and how numbers fall."""

import itertools
import random
import unittest
from fractions import Fraction

from onewayread.cones import Cone, cone_of, last_fit
from onewayread.falls import Part, Remains, drops, groups
from onewayread.growth import grows, is_growing, losses, shrinks
from onewayread.looms import Loom
from onewayread.pivots import inverse
from onewayread.wires import rows_between

from tests.helpers import TimedCase


def some_rows(chance, most=4):
    many = chance.randint(1, most)
    return [[chance.choice([0, 0, 1, 1, 2, 3]) for _ in range(many)] for _ in range(many)]


def is_led(rows, place, goal):
    """Tells whether rows lead from a place to a goal, by none or more of them."""
    seen = [place]
    for state in seen:
        seen.extend(other for other, many in enumerate(rows[state]) if many and other not in seen)
    return goal in seen


def determinant(matrix):
    total = 0
    for order in itertools.permutations(range(len(matrix))):
        turns = sum(one > other for at, one in enumerate(order) for other in order[at + 1:])
        product = -1 if turns % 2 else 1
        for row, place in zip(matrix, order):
            product *= row[place]
        total += product
    return total


def solved(lines, bounds):
    """The numbers for which the lines have these sums, as fractions; None if there is not just one answer."""
    bottom = determinant(lines)
    if bottom == 0:
        return None
    found = []
    for at in range(len(lines)):
        changed = [[*line[:at], bound, *line[at + 1:]] for line, bound in zip(lines, bounds)]
        found.append(Fraction(determinant(changed)) / bottom)
    return found


def plain_ends(matrix, hub, at):
    """The least and the greatest number of a place beside 1 of the hub, of the lists that lose nothing.

    These stand at corners, where all but one of the bounds are met just so.
    """
    many = len(matrix)
    units = [[int(place == other) for place in range(many)] for other in range(many)]
    held = []
    for lines in itertools.combinations([*matrix, *units], many - 1):
        corner = solved([*lines, units[hub]], [0] * (many - 1) + [1])
        if corner is not None and min(corner) >= 0:
            if all(sum(entry * number for entry, number in zip(row, corner)) <= 0 for row in matrix):
                held.append(corner[at])
    return min(held), max(held)


class Pivots(TimedCase):
    def test_the_inverse(self):
        chance = random.Random(201)
        told = {True: 0, False: 0}
        for _ in range(800):
            rows, choices = some_rows(chance), chance.randint(1, 8)
            matrix = losses(rows, choices)
            places = range(len(matrix))
            # There is one without numbers below 0 just if all these are above 0.
            firm = all(determinant([row[:at] for row in matrix[:at]]) > 0 for at in range(1, len(matrix) + 1))
            answer = inverse(matrix)
            told[firm] += 1
            self.assertIs(answer is not None, firm)
            if firm:
                turned, divisor = answer
                self.assertEqual(divisor, determinant(matrix))
                self.assertGreaterEqual(min(min(row) for row in turned), 0)
                for one, other in itertools.product(places, repeat=2):
                    total = sum(matrix[one][at] * turned[at][other] for at in places)
                    self.assertEqual(total, divisor if one == other else 0)
        self.assertGreater(min(told.values()), 200)


class Cones(TimedCase):
    def test_the_last_number_of_the_hub(self):
        chance = random.Random(202)
        for _ in range(1500):
            lows, highs = [], []
            for _ in range(chance.randint(1, 4)):
                under, low = chance.randint(1, 9), chance.randint(0, 20)
                lows.append((low, under))
                highs.append((low * 3 + chance.randint(0, 6), under * 3))
            most = chance.randint(0, 90)
            fits = [held for held in range(most + 1)
                    if all(-(-held * low // under) <= held * high // below
                           for (low, under), (high, below) in zip(lows, highs))]
            self.assertEqual(Cone(0, lows, highs).last_hub(most), max(fits))

    def test_great_fractions(self):
        low, high = (10 ** 30 + 7, 10 ** 29), (10 ** 31 + 71, 10 ** 30)
        self.assertLess(Fraction(*low), Fraction(*high))
        self.assertEqual(last_fit((1, 1), (1, 1), 10 ** 40), 10 ** 40)
        told = last_fit(low, high, 10 ** 35)
        self.assertLessEqual(-(-told * low[0] // low[1]), told * high[0] // high[1])
        for more in range(told + 1, min(told + 2000, 10 ** 35)):
            self.assertGreater(-(-more * low[0] // low[1]), more * high[0] // high[1])

    def test_the_bounds_of_all_places(self):
        chance = random.Random(203)
        told = 0
        for _ in range(2500):
            rows, choices = some_rows(chance, 3), chance.randint(1, 6)
            places = range(len(rows))
            matrix = losses(rows, choices)
            if all(is_led(rows, one, other) for one in places for other in places) and inverse(matrix) is None:
                cone = cone_of(matrix)
                if cone is not None:
                    told += 1
                    self.assertEqual([cone.lows[cone.hub], cone.highs[cone.hub]], [(1, 1), (1, 1)])
                    for at in places:
                        ends = [Fraction(*cone.lows[at]), Fraction(*cone.highs[at])]
                        self.assertEqual(ends, list(plain_ends(matrix, cone.hub, at)))
                    held = chance.randint(0, 50)
                    highest = [int(held * Fraction(*high)) for high in cone.highs]
                    self.assertEqual(cone.highest(held), highest)
        self.assertGreater(told, 300)

    def test_without_a_hub(self):
        # Each of both places grows by itself: neither bounds the other one.
        self.assertIsNone(cone_of(losses([[3, 1], [1, 3]], 2)))
        self.assertIsNotNone(cone_of(losses([[1, 1], [1, 3]], 2)))


class Falls(TimedCase):
    def test_groups(self):
        chance = random.Random(204)
        for _ in range(500):
            rows = some_rows(chance, 7) if chance.random() < 0.5 else [
                [int(chance.random() < 0.2) for _ in range(8)] for _ in range(8)]
            told = groups(rows)
            self.assertEqual(sorted(place for group in told for place in group), list(range(len(rows))))
            for at, group in enumerate(told):
                for one in group:
                    for beside, others in enumerate(told):
                        for other in others:
                            if beside == at:
                                self.assertTrue(is_led(rows, one, other))
                            elif beside > at:
                                self.assertFalse(is_led(rows, one, other))

    def test_drops(self):
        chance = random.Random(205)
        told = 0
        for _ in range(3000):
            rows, choices = some_rows(chance, 4), chance.randint(2, 9)
            matrix = losses(rows, choices)
            if inverse(matrix) is not None:
                bounds = [chance.randint(-5, 5) for _ in matrix]
                found = drops(matrix, bounds)
                least = self.plain_drops(matrix, bounds)
                self.assertEqual(found, [-(-number.numerator // number.denominator) for number in least])
                told += len(set(found)) > 1
        self.assertGreater(told, 100)

    def plain_drops(self, matrix, bounds):
        """The least numbers, as fractions: some places lose just their bounds, and all other ones have 0."""
        for many in range(len(matrix) + 1):
            for kept in itertools.combinations(range(len(matrix)), many):
                part = solved([[matrix[one][other] for other in kept] for one in kept], [bounds[at] for at in kept])
                numbers = [Fraction(0)] * len(matrix)
                for at, number in zip(kept, part or []):
                    numbers[at] = number
                sums = [sum(entry * number for entry, number in zip(row, numbers)) for row in matrix]
                if min(numbers) >= 0 and all(total >= bound for total, bound in zip(sums, bounds)):
                    return numbers
        raise AssertionError((matrix, bounds))

    def test_fallen_is_never_too_low(self):
        chance = random.Random(206)
        lower = 0
        for _ in range(1500):
            rows, choices = some_rows(chance, 4), chance.randint(1, 6)
            places = groups(rows)[0]
            part = Part(rows, choices, places)
            if not part.is_dying:
                numbers = [chance.randint(0, 40) for _ in places]
                flow = [chance.choice([0, 0, 0, 5]) for _ in places]
                left = self.plain_remaining(part, numbers, flow)
                found = part.fallen(numbers, flow)
                self.assertTrue(all(least <= number <= most for least, number, most in zip(left, found, numbers)))
                self.assertEqual(part.remaining(numbers, flow), left)
                lower += found != numbers
        self.assertGreater(lower, 200)

    def plain_remaining(self, part, numbers, flow):
        while True:
            brought = [(more + sum(many * numbers[at] for at, many in line)) // part.choices
                       for more, line in zip(flow, part.inside)]
            further = [min(pair) for pair in zip(numbers, brought)]
            if further == numbers:
                return numbers
            numbers = further


class Slopes(TimedCase):
    """Rounds in which numbers grow by three halves and come down by two thirds: all but great ones lose some."""

    def slope(self, many):
        arcs = [(at, sign, (at + 1) % many) for at in range(many) for sign in "abcd"[:2 if at < many // 2 else 3]]
        return Loom("abcd", arcs)

    def test_small_ones_against_the_steps_one_by_one(self):
        for many in [4, 8, 12, 16, 20, 24]:
            rows = rows_between(self.slope(many), 2)
            found = grows(self.slope(many), 2, 6)
            for top in [1, 2, 4, 8, 16, 32, 64, 128, 256, 512]:
                numbers = [top] * many
                further = None
                while further != numbers:
                    numbers = further or numbers
                    brought = [sum(ways * number for ways, number in zip(row, numbers)) // 6 for row in rows]
                    further = [min(pair) for pair in zip(numbers, brought)]
                self.assertEqual(Remains(rows, 6).of_top(top), numbers)
                if any(numbers):
                    break
            self.assertEqual(found, numbers)

    def test_great_ones(self):
        # One by one, these would fall for hours.
        for many, most in [(48, 3 ** 11), (64, 3 ** 15), (62, 3 ** 15), (63, 4096)]:
            wire = self.slope(many)
            found = grows(wire, 2, 6)
            self.assertEqual(max(found), most)
            self.assertIs(is_growing(wire, 2, 6, found), True)
            self.assertIsNone(shrinks(wire, 2, 6))


if __name__ == "__main__":
    unittest.main()
