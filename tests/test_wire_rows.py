"""[63]: the number of texts that a wire lets, and of rows between its states."""

import random
import unittest

from onewayread.errors import InvalidNumber, NotAWire
from onewayread.looms import Loom, met
from onewayread.rows import count
from onewayread.wires import least, many, rows_between, wire_of

from tests.helpers import TimedCase, check_error, check_new_list, no_integers
from tests.plain_wires import (
    EMPTY, FULL, GOLDEN, NO_WIRES, SHORT, WIRES, great_wire, plain_between, plain_texts, some_wire,
)


def product_of(rows, others):
    return [[sum(row[at] * others[at][goal] for at in range(len(others))) for goal in range(len(others))]
            for row in rows]


class Many(TimedCase):
    def test_numbers(self):
        self.assertEqual([many(GOLDEN, length) for length in [0, 1, 2, 3, 10]], [1, 2, 3, 5, 144])
        self.assertEqual([many(FULL, length) for length in [0, 1, 5]], [1, 2, 32])
        self.assertEqual([many(SHORT, length) for length in range(5)], [1, 1, 1, 0, 0])
        self.assertEqual([many(EMPTY, length) for length in [0, 1, 2, 300]], [1, 0, 0, 0])

    def test_exact_however_great(self):
        self.assertEqual(many(wire_of("abcd", []), 300), 4 ** 300)
        self.assertEqual(many(wire_of("abc", []), 299), 3 ** 299)
        one, other = 1, 2
        for _ in range(300):
            one, other = other, one + other
        self.assertEqual(many(GOLDEN, 300), one)
        self.assertEqual(many(Loom("a", [(0, "a", 1), (1, "a", 0)]), 300), 1)

    def test_against_all_rows(self):
        chance = random.Random(63)
        for _ in range(200):
            wire = some_wire(chance)
            for length in range(5):
                texts = [text for text, _ in plain_texts(wire, 0, length)]
                self.assertEqual(many(wire, length), len(texts))
                self.assertEqual(len(set(texts)), len(texts))
                self.assertTrue(all(count(wire, 0, text) == 1 for text in texts))

    def test_the_least_wire_lets_as_many(self):
        chance = random.Random(631)
        for wire in [*WIRES, *[great_wire(chance, many=chance.randint(2, 64)) for _ in range(10)]]:
            if wire != EMPTY:
                for length in [0, 1, 2, 17, 300]:
                    self.assertEqual(many(least(wire), length), many(wire, length))

    def test_wrong_lengths(self):
        for length in no_integers(0, 300):
            check_error(self, InvalidNumber, [], many, GOLDEN, length)
            check_error(self, NotAWire, [], many, NO_WIRES[0], length)
        self.assertEqual([many(EMPTY, 0), many(SHORT, 300)], [1, 0])


class RowsBetween(TimedCase):
    def test_lists(self):
        self.assertEqual(rows_between(GOLDEN, 3), [[3, 2], [2, 1]])
        self.assertEqual(rows_between(GOLDEN, 1), [[1, 1], [1, 0]])
        self.assertEqual(rows_between(FULL, 8), [[256]])
        self.assertEqual(rows_between(wire_of("abcd", []), 8), [[4 ** 8]])

    def test_met_states_ascending(self):
        self.assertEqual(met(SHORT), [0, 2, 5])
        self.assertEqual(rows_between(SHORT, 1), [[0, 0, 1], [0, 0, 0], [0, 1, 0]])
        self.assertEqual(rows_between(SHORT, 2), [[0, 1, 0], [0, 0, 0], [0, 0, 0]])
        self.assertEqual(rows_between(SHORT, 3), [[0] * 3] * 3)
        self.assertEqual(rows_between(EMPTY, 1), [[0]])

    def test_rows_of_two_signs_between_the_same_states(self):
        wire = Loom("abc", [(0, "b", 2), (0, "a", 2), (2, "c", 0), (2, "a", 2), (0, "c", 0)])
        self.assertEqual(rows_between(wire, 1), [[1, 2], [1, 1]])
        self.assertEqual(rows_between(wire, 2), [[3, 4], [2, 3]])

    def test_against_all_rows(self):
        chance = random.Random(632)
        for _ in range(150):
            wire = some_wire(chance)
            for span in range(1, 5):
                self.assertEqual(rows_between(wire, span), plain_between(wire, span))

    def test_great_wires_against_products(self):
        chance = random.Random(633)
        for signs in ["ab", "abcd"]:
            wire = great_wire(chance, signs=signs, arcs=128)
            told = rows_between(wire, 1)
            self.assertEqual(told, plain_between(wire, 1))
            for span in range(2, 9):
                told = product_of(told, rows_between(wire, 1))
                self.assertEqual(rows_between(wire, span), told)
            self.assertEqual([sum(row) for row in rows_between(wire, 8)][0], many(wire, 8))

    def test_wrong_spans(self):
        for span in no_integers(1, 8):
            check_error(self, InvalidNumber, [], rows_between, GOLDEN, span)
            check_error(self, InvalidNumber, [], rows_between, EMPTY, span)
            check_error(self, NotAWire, [], rows_between, NO_WIRES[1], span)

    def test_new_lists_on_each_call(self):
        for wire in [GOLDEN, SHORT, EMPTY]:
            check_new_list(self, rows_between, wire, 2)

    def test_the_lines_are_lists_of_their_own(self):
        told = rows_between(Loom("ab", [(0, "a", 1), (0, "b", 2)]), 2)
        told[1][0] = 7
        self.assertEqual(told, [[0, 0, 0], [7, 0, 0], [0, 0, 0]])


if __name__ == "__main__":
    unittest.main()
