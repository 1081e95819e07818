"""[90] and [91]: the pipe."""

import itertools
import random
import unittest

from onewayread.books import book, words
from onewayread.errors import (InvalidChoice, InvalidNumber, InvalidText, LimitExceeded, NotABook, NotAWire, NotPlain,
                               NothingLeft)
from onewayread.looks import look
from onewayread.looms import Loom
from onewayread.pipes import Pipe
from onewayread.readers import go
from onewayread.wires import wire_of
from onewayread.writers import is_writer, read_back, written

from tests.helpers import TimedCase, all_kinds, check_error, check_new_list, no_integers, no_sequences, no_texts
from tests.plain_books import NO_BOOKS, some_plain_words, texts_up_to
from tests.plain_wires import EMPTY, FULL, GOLDEN, NO_WIRES, SHORT
from tests.plain_writers import SUMS, lined, plain_is_writer

PLAIN = book("xy", ["x", "yx", "yy"])
NOT_PLAIN = [book("xy", ["x", "xy"]), book("ab", ["a", "b", "a"])]
# x begins a word, but xy does not go on: the book is not full.
GAPS = book("xyz", ["xx", "y", "xzz"])
SPLIT, SPLIT_SPAN = SUMS[(64, 2)]


def groups_of(signs, text, group):
    """The places of the groups of a text among all texts of so many signs."""
    order = ["".join(signs) for signs in itertools.product(signs, repeat=group)]
    return [order.index(text[at:at + group]) for at in range(0, len(text), group)]


def plain_write(pipe, a_book, group, numbers):
    text = "".join(words(a_book)[number] for number in numbers)
    while len(text) % group > 0:
        text += a_book.signs[0]
    choices = groups_of(a_book.signs, text, group)
    return written(pipe.made, choices + [0] * look(pipe.made[0]))


def plain_read(pipe, a_book, group, text, count):
    choices = read_back(pipe.made, text)
    if choices is None:
        return None
    order = ["".join(signs) for signs in itertools.product(a_book.signs, repeat=group)]
    told, left = [], "".join(order[number] for number in choices)
    while True:
        begun = [number for number, word in enumerate(words(a_book)) if left.startswith(word)]
        if not begun:
            return told[:count] if len(told) >= count else None
        told.append(begun[0])
        left = left[len(words(a_book)[begun[0]]):]


def some_pipes():
    """Tuples (pipe, book, group, wire, span)."""
    full, three = wire_of("ab", []), book("xyz", ["x", "yx", "yyz", "z"])
    cases = [(PLAIN, 1, FULL, 2), (PLAIN, 2, FULL, 3), (PLAIN, 3, full, 3), (PLAIN, 3, full, 8), (GAPS, 1, full, 3),
             (GAPS, 2, full, 4), (GAPS, 3, full, 5), (three, 2, GOLDEN, 6),
             (PLAIN, 1, GOLDEN, 2), (PLAIN, 2, GOLDEN, 3), (book("a", ["aaa"]), 2, GOLDEN, 1),
             (book("z", ["z" * 12]), 3, Loom("q", [(0, "q", 5), (5, "q", 5)]), 8),
             (book("wxyz", ["w", "x", "y", "z"]), 3, full, 6), (book("wxyz", ["zz", "y" * 12]), 1, GOLDEN, 3),
             (PLAIN, 1, SPLIT, SPLIT_SPAN), (book("ab", ["b" * 12]), 2, *SUMS[(50, 4)]), (GAPS, 1, *SUMS[(64, 3)]),
             (book("pq", ["p"]), 3, *SUMS[(25, 8)])]
    return [(Pipe(a_book, group, wire, span), a_book, group, wire, span) for a_book, group, wire, span in cases]


class Made(TimedCase):
    def test_it_is_a_writer_of_all_groups(self):
        for pipe, a_book, group, wire, span in some_pipes():
            choices = len(a_book.signs) ** group
            self.assertIs(is_writer(wire, span, choices, pipe.made), True)
            self.assertTrue(plain_is_writer(wire, span, choices, pipe.made))

    def test_signs_that_stand_in_no_word_count(self):
        pipe = Pipe(book("wxyz", ["x"]), 3, FULL, 6)
        self.assertEqual(len(pipe.made[0].arcs), 64)
        check_error(self, NothingLeft, ["writer"], Pipe, book("wxyz", ["x"]), 3, FULL, 5)

    def test_one_sign_is_one_choice(self):
        for group in [1, 2, 3]:
            self.assertIs(is_writer(GOLDEN, 4, 1, Pipe(book("a", ["a"]), group, GOLDEN, 4).made), True)


class Write(TimedCase):
    def test_ordinary_numbers(self):
        pipe = Pipe(PLAIN, 1, FULL, 2)
        self.assertEqual([pipe.read(pipe.write([2, 0, 1]), many) for many in range(4)], [[], [2], [2, 0], [2, 0, 1]])

    def test_words_and_what_is_filled_up(self):
        for pipe, a_book, group, _, _ in some_pipes():
            self.assertEqual(pipe.write([]), written(pipe.made, [0] * look(pipe.made[0])))
            for many in range(4):
                for numbers in itertools.product(range(len(words(a_book))), repeat=many):
                    self.assertEqual(pipe.write(numbers), plain_write(pipe, a_book, group, numbers))
                    self.assertEqual(pipe.write(list(numbers)), pipe.write(numbers))

    def test_groups_of_the_look_stand_behind(self):
        pipe = Pipe(PLAIN, 1, SPLIT, SPLIT_SPAN)
        behind = look(pipe.made[0])
        self.assertGreater(behind, 3)
        for numbers, many in [([], 0), ([0], 1), ([1, 2], 4), ([2] * 12, 24)]:
            self.assertEqual(len(pipe.write(numbers)), (many + behind) * SPLIT_SPAN)

    def test_the_last_group_is_filled_up(self):
        pipe = Pipe(PLAIN, 3, FULL, 3)
        self.assertEqual(look(pipe.made[0]), 0)
        self.assertEqual([len(pipe.write(numbers)) for numbers in [[], [0], [1], [1, 0], [1, 1], [0, 1, 0]]],
                         [0, 3, 3, 3, 6, 6])
        self.assertEqual(pipe.write([1]), pipe.write([1, 0]))

    def test_twelve_words(self):
        pipe = Pipe(PLAIN, 2, GOLDEN, 3)
        self.assertEqual(pipe.read(pipe.write([2] * 12), 12), [2] * 12)
        for numbers in [[0] * 13, (0,) * 13, [None] * 13]:
            check_error(self, InvalidChoice, [-1], pipe.write, numbers)

    def test_the_longest_texts(self):
        pipe = Pipe(book("wxyz", ["z" * 12, "y"]), 1, FULL, 8)
        self.assertEqual(pipe.read(pipe.write([0] * 12), 12), [0] * 12)
        pipe = Pipe(book("xy", ["x" * 12]), 1, SPLIT, SPLIT_SPAN)
        self.assertEqual(pipe.read(pipe.write([0] * 12), 12), [0] * 12)

    def test_the_first_wrong_number_is_told(self):
        pipe = Pipe(PLAIN, 1, FULL, 2)
        for value in no_integers(0, 2):
            for at in [0, 1, 10]:
                check_error(self, InvalidChoice, [at], pipe.write, [0] * at + [value, None])
                check_error(self, InvalidChoice, [at], pipe.write, (2,) * at + (value,))
        for value in no_sequences():
            check_error(self, InvalidChoice, [-1], pipe.write, value)

    def test_numbers_are_not_changed(self):
        numbers = [2, 0, 1]
        Pipe(PLAIN, 2, FULL, 2).write(numbers)
        self.assertEqual(numbers, [2, 0, 1])


class Read(TimedCase):
    def test_read_of_write_is_the_numbers(self):
        chance = random.Random(91)
        for pipe, a_book, _, _, _ in some_pipes():
            for _ in range(20):
                numbers = chance.choices(range(len(words(a_book))), k=chance.choice([0, 1, 2, 5, 11, 12]))
                text = pipe.write(numbers)
                self.assertEqual(pipe.read(text, len(numbers)), numbers)
                count = chance.randint(0, len(numbers))
                self.assertEqual(pipe.read(text, count), numbers[:count])

    def test_drawn_books(self):
        chance = random.Random(92)
        for _ in range(60):
            signs = chance.choice(["ab", "xyz", "pq"])
            a_book = book(signs, some_plain_words(chance, signs, 8, chance.random() < 0.5))
            group = chance.randint(1, 3)
            pipe = Pipe(a_book, group, *chance.choice([(FULL, 6), (GOLDEN, 8), (wire_of("ab", ["aba"]), 8)]))
            for _ in range(5):
                numbers = chance.choices(range(len(words(a_book))), k=chance.randint(0, 12))
                text = pipe.write(numbers)
                self.assertEqual(text, plain_write(pipe, a_book, group, numbers))
                for count in range(13):
                    self.assertEqual(pipe.read(text, count), plain_read(pipe, a_book, group, text, count))

    def test_more_words_than_were_written(self):
        # What is filled up may be words, too.
        pipe = Pipe(PLAIN, 3, FULL, 3)
        text = pipe.write([1])
        self.assertEqual([pipe.read(text, count) for count in range(4)], [[], [1], [1, 0], None])

    def test_all_short_texts_against_the_parts(self):
        for pipe, a_book, group, wire, span in some_pipes():
            for text in texts_up_to(wire.signs, 4):
                if len(text) % span == 0:
                    for count in range(5):
                        self.assertEqual(pipe.read(text, count), plain_read(pipe, a_book, group, text, count))

    def test_a_reader_that_gets_stuck(self):
        # xy begins no word: what was told ahead of it counts.
        pipe = Pipe(GAPS, 1, wire_of("abc", []), 1)
        text = written(pipe.made, groups_of("xyz", "yyxyxx", 1))
        self.assertIsNone(go(GAPS, "", "yyxyxx"))
        self.assertEqual([pipe.read(text, count) for count in range(4)], [[], [1], [1, 1], None])

    def test_no_row_reads_so(self):
        pipe = Pipe(PLAIN, 1, GOLDEN, 2)
        for count in [0, 1, 12]:
            self.assertIsNone(pipe.read("bb", count))
            self.assertIsNone(pipe.read("aabb", count))
        self.assertEqual(pipe.read("", 0), [])
        self.assertIsNone(pipe.read("", 1))

    def test_spoilt_texts(self):
        chance = random.Random(93)
        told = {True: 0, False: 0}
        for pipe, a_book, group, wire, _ in some_pipes():
            for _ in range(20):
                text = pipe.write(chance.choices(range(len(words(a_book))), k=3))
                if text:
                    at = chance.randrange(len(text))
                    text = text[:at] + chance.choice(wire.signs) + text[at + 1:]
                    answer = pipe.read(text, 3)
                    self.assertEqual(answer, plain_read(pipe, a_book, group, text, 3))
                    told[answer is None] += 1
        self.assertGreater(min(told.values()), 20)

    def test_wrong_texts_come_ahead_of_wrong_counts(self):
        pipe = Pipe(PLAIN, 1, FULL, 2)
        for value in [*no_texts("ab"), "a", "aba", "a" * 2001, "b" * 1999]:
            for count in [0, 12, 13, -1, None, True]:
                check_error(self, InvalidText, [], pipe.read, value, count)

    def test_wrong_counts(self):
        pipe = Pipe(PLAIN, 1, GOLDEN, 2)
        for count in no_integers(0, 12):
            for text in ["", "bb", "aa", "a" * 2000]:
                check_error(self, InvalidNumber, [], pipe.read, text, count)
        self.assertEqual(pipe.read(pipe.write([0] * 12), 12), [0] * 12)

    def test_new_lists_on_each_call(self):
        pipe = Pipe(PLAIN, 1, FULL, 2)
        check_new_list(self, pipe.read, pipe.write([2, 0, 1]), 3)
        check_new_list(self, pipe.read, "", 0)


class Errors(TimedCase):
    def test_errors_in_their_order(self):
        for loom in NO_BOOKS:
            for others in [(0, FULL, 2), (1, NO_WIRES[0], 0), (None, EMPTY, None), (1, FULL, 2)]:
                check_error(self, NotABook, [], Pipe, loom, *others)
        for a_book in NOT_PLAIN:
            for others in [(0, FULL, 2), (1, NO_WIRES[0], 0), (None, EMPTY, None), (1, FULL, 2)]:
                check_error(self, NotPlain, [], Pipe, a_book, *others)
        for loom in NO_WIRES:
            check_error(self, InvalidNumber, [], Pipe, PLAIN, 0, loom, 2)
            for span in [1, 0, 9, None]:
                check_error(self, NotAWire, [], Pipe, PLAIN, 1, loom, span)
        for span in [0, 9, None]:
            check_error(self, InvalidNumber, [], Pipe, PLAIN, 1, EMPTY, span)

    def test_wrong_groups(self):
        for group in no_integers(1, 3):
            for wire in [FULL, EMPTY, NO_WIRES[0]]:
                check_error(self, InvalidNumber, [], Pipe, PLAIN, group, wire, 2)

    def test_wrong_spans(self):
        for span in no_integers(1, 8):
            check_error(self, InvalidNumber, [], Pipe, PLAIN, 1, FULL, span)

    def test_nothing_left(self):
        for wire, span in [(EMPTY, 1), (SHORT, 8), (GOLDEN, 1)]:
            check_error(self, NothingLeft, ["writer"], Pipe, PLAIN, 1, wire, span)
        check_error(self, NothingLeft, ["writer"], Pipe, PLAIN, 2, FULL, 1)

    def test_limits(self):
        check_error(self, LimitExceeded, [64], Pipe, PLAIN, 1, *SUMS[(65, 2)])
        check_error(self, LimitExceeded, [64], Pipe, GAPS, 1, *SUMS[(67, 3)])
        check_error(self, LimitExceeded, [200], Pipe, PLAIN, 2, *SUMS[(51, 4)])
        for a_book, group, key in [(PLAIN, 2, (50, 4)), (PLAIN, 3, (25, 8)), (PLAIN, 1, (64, 2)), (GAPS, 1, (64, 3))]:
            self.assertLessEqual(len(Pipe(a_book, group, *SUMS[key]).made[0].arcs), 200)

    def test_limits_of_great_groups(self):
        wire = lined("01", "23", "02", "31")
        check_error(self, LimitExceeded, [200], Pipe, book("wxyz", ["w"]), 3, wire, 8)
        check_error(self, NothingLeft, ["writer"], Pipe, book("wxyz", ["w"]), 3, wire, 5)


class Together(TimedCase):
    def test_what_is_written_keeps_the_bars(self):
        chance = random.Random(94)
        for bars in [["bb"], ["aaa", "bbb"], ["abab"], ["ba"]]:
            wire = wire_of("abc", bars)
            pipe = Pipe(PLAIN, 2, wire, 3)
            for _ in range(20):
                text = pipe.write(chance.choices(range(3), k=12))
                self.assertFalse(any(bar in text for bar in bars))

    def test_all_kinds_as_numbers(self):
        pipe = Pipe(PLAIN, 1, FULL, 2)
        for value in all_kinds():
            if isinstance(value, (list, tuple)) and all(item.__class__ is int and 0 <= item <= 2 for item in value):
                if len(value) <= 12:
                    self.assertEqual(pipe.read(pipe.write(value), len(value)), list(value))


if __name__ == "__main__":
    unittest.main()
