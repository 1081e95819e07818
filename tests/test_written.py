"""[82]: what writers write, and what is read back of it."""

import itertools
import random
import unittest

from onewayread.errors import InvalidChoice, InvalidText
from onewayread.looks import look
from onewayread.looms import Loom, leaving
from onewayread.rows import sure
from onewayread.wires import wire_of
from onewayread.writers import is_writer, read_back, writer, written

from tests.helpers import TimedCase, all_kinds, check_error, check_new_list, no_integers, no_sequences, no_texts
from tests.plain_search import plain_sure
from tests.plain_wires import FULL, GOLDEN, plain_end
from tests.plain_writers import SUMS, plain_written

MADE = (Loom("ab", [(0, "aa", 0), (0, "ab", 0)]), (0,))
# Arcs in any order: the choices go by the numbers of the arcs of a state.
MIXED = (Loom("ab", [(1, "b", 0), (0, "b", 1), (1, "a", 1), (0, "a", 0)]), (0, 0))
# The first of two equal words is known by the sign behind it.
LATE = (Loom("ab", [(0, "a", 0), (0, "a", 1), (1, "b", 0), (1, "b", 1)]), (0, 0))
ONE = (Loom("a", [(0, "aaa", 1), (1, "aaa", 0)]), (0, 0))


def some_writers():
    """Tuples of a wire, a span, choices and a writer."""
    cases = [(wire, span, choices) for (total, choices), (wire, span) in SUMS.items()
             if total <= 64 and total * choices <= 200]
    cases += [(FULL, 1, 2), (FULL, 8, 64), (GOLDEN, 2, 2), (GOLDEN, 3, 4), (GOLDEN, 5, 11), (GOLDEN, 8, 1)]
    return [(wire, span, choices, writer(wire, span, choices)) for wire, span, choices in cases]


class Written(TimedCase):
    def test_ordinary_numbers(self):
        self.assertEqual(written(MADE, [1, 0, 1]), "abaaab")
        self.assertEqual(written(MADE, (1, 0, 1)), "abaaab")
        self.assertEqual(written(MADE, []), "")
        self.assertEqual(written(MADE, ()), "")
        self.assertEqual(written(ONE, [0, 0, 0]), "a" * 9)

    def test_places_among_the_arcs_that_leave_a_state(self):
        self.assertEqual(leaving(MIXED[0], 0), [1, 3])
        self.assertEqual(written(MIXED, [0]), "b")
        self.assertEqual(written(MIXED, [1]), "a")
        self.assertEqual(written(MIXED, [0, 0, 1, 0, 1]), "bbaba")

    def test_all_rows_of_few_choices(self):
        for made in [MADE, MIXED, LATE, writer(GOLDEN, 3, 4), writer(FULL, 2, 3)]:
            choices = len(leaving(made[0], 0))
            for many in range(4):
                for numbers in itertools.product(range(choices), repeat=many):
                    self.assertEqual(written(made, numbers), plain_written(made, numbers))
                    self.assertEqual(written(made, list(numbers)), plain_written(made, numbers))

    def test_what_is_written_is_let_from_the_first_place_on(self):
        chance = random.Random(83)
        for wire, span, choices, made in some_writers():
            for many in [1, 10, 240]:
                text = written(made, [chance.randrange(choices) for _ in range(many)])
                self.assertEqual(len(text), many * span)
                self.assertIsNotNone(plain_end(wire, made[1][0], text))

    def test_two_hundred_and_forty_numbers(self):
        self.assertEqual(written(MADE, [0] * 240), "aa" * 240)
        check_error(self, InvalidChoice, [-1], written, MADE, [0] * 241)
        check_error(self, InvalidChoice, [-1], written, MADE, (0,) * 241)

    def test_the_first_wrong_number_is_told(self):
        for made, choices in [(MADE, 2), (ONE, 1), (writer(FULL, 8, 64), 64)]:
            for value in no_integers(0, choices - 1):
                for at in [0, 1, 5]:
                    check_error(self, InvalidChoice, [at], written, made, [0] * at + [value, None])
                    check_error(self, InvalidChoice, [at], written, made, (0,) * at + (value,))
            self.assertEqual(len(written(made, [choices - 1])), len(made[0].arcs[0][1]))

    def test_what_are_no_numbers(self):
        for value in no_sequences():
            check_error(self, InvalidChoice, [-1], written, MADE, value)
        for value in all_kinds():
            check_error(self, InvalidChoice, [-1], written, MADE, [value] * 241)

    def test_numbers_are_not_changed(self):
        numbers = [1, 0, 1]
        written(MADE, numbers)
        self.assertEqual(numbers, [1, 0, 1])


class ReadBack(TimedCase):
    def test_ordinary_texts(self):
        self.assertEqual(read_back(MADE, "abaaab"), [1, 0, 1])
        self.assertIsNone(read_back(MADE, "abba"))
        self.assertEqual(read_back(MADE, ""), [])
        self.assertEqual(read_back(MIXED, "bbaba"), [0, 0, 1, 0, 1])
        self.assertEqual(read_back(ONE, "a" * 9), [0, 0, 0])

    def test_what_is_not_sure_yet_is_left(self):
        self.assertEqual(look(LATE[0]), 1)
        self.assertEqual([read_back(LATE, text) for text in ["", "a", "aa", "ab", "aab", "abb", "aba", "b", "bb"]],
                         [[], [], [0], [1], [0, 1], [1, 1], [1, 0], None, None])

    def test_all_texts_of_few_words_against_all_rows(self):
        for made, words in [(MADE, 3), (MIXED, 3), (LATE, 5), (writer(GOLDEN, 3, 4), 2), (writer(FULL, 2, 3), 2)]:
            loom, _ = made
            span = len(loom.arcs[0][1])
            for many in range(words + 1):
                for signs in itertools.product(loom.signs, repeat=many * span):
                    row = plain_sure(loom, 0, "".join(signs))
                    told = None if row is None else [leaving(loom, loom.arcs[at][0]).index(at) for at in row]
                    self.assertEqual(read_back(made, "".join(signs)), told)

    def test_a_beginning_that_lacks_at_most_the_last_look(self):
        chance = random.Random(84)
        late = 0
        for _, span, choices, made in some_writers():
            for many in [0, 1, 2, 5, 30, 240]:
                numbers = [chance.randrange(choices) for _ in range(many)]
                text = written(made, numbers)
                told = read_back(made, text)
                self.assertEqual(told, numbers[:len(told)])
                self.assertGreaterEqual(len(told), many - look(made[0]))
                self.assertEqual(len(told), len(sure(made[0], 0, text)))
                late += len(told) < many
        self.assertGreater(late, 5)

    def test_the_longest_texts(self):
        made = writer(FULL, 8, 64)
        self.assertEqual(len(read_back(made, written(made, [5] * 240) + written(made, [63] * 10))), 250)
        check_error(self, InvalidText, [], read_back, made, "a" * 2001)
        check_error(self, InvalidText, [], read_back, made, "a" * 2008)
        self.assertEqual(read_back(ONE, "a" * 1998), [0] * 666)

    def test_no_multiples_of_the_span(self):
        for many in range(1, 12):
            text = "a" * many
            if many % 2 == 1:
                check_error(self, InvalidText, [], read_back, MADE, text)
            if many % 3 > 0:
                check_error(self, InvalidText, [], read_back, ONE, text)
        check_error(self, InvalidText, [], read_back, MADE, "bbb")

    def test_what_are_no_texts(self):
        for value in no_texts("ab"):
            check_error(self, InvalidText, [], read_back, MADE, value)
            check_error(self, InvalidText, [], read_back, MIXED, value)

    def test_new_lists_on_each_call(self):
        check_new_list(self, read_back, MADE, "abaaab")
        check_new_list(self, read_back, MADE, "")


class Together(TimedCase):
    def test_least_wires_carry_the_same(self):
        for bars in [["bb"], ["bab", "bb"], ["aaa"]]:
            wire = wire_of("ab", bars)
            made = writer(wire, 4, 3)
            text = written(made, [2, 1, 0, 2, 2, 1])
            self.assertFalse(any(bar in text for bar in bars))
            self.assertIs(is_writer(wire, 4, 3, made), True)


if __name__ == "__main__":
    unittest.main()
