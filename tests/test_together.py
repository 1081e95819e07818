"""Facts over all parts of the program together: what one part returns, handed to the others."""

import random
import unittest

from onewayread.books import book, is_book, is_full, sum_of, words
from onewayread.desk import Desk
from onewayread.errors import LimitExceeded, NothingLeft
from onewayread.growth import grows, is_growing, is_shrinking, shrinks
from onewayread.healing import heals, is_stays, stays
from onewayread.joins import apart, base, joined, same_texts
from onewayread.looks import is_covered, longest_covered, look, ring
from onewayread.looms import Loom, leaving, met
from onewayread.pages import read_loom, read_row, write_loom, write_row
from onewayread.pipes import Pipe
from onewayread.prices import book_of_lengths, cheapest_book, price
from onewayread.readers import go, is_never, is_plain, meeting, never
from onewayread.rests import closed, double, is_closed, one_way, rests
from onewayread.rows import count, end_of, is_row, readings, sure, text_of
from onewayread.takers import Reader
from onewayread.wires import is_wire, least, many, parted, rows_between, wire_of
from onewayread.writers import is_writer, read_back, writer, written

from tests.helpers import TimedCase
from tests.plain_books import texts_up_to
from tests.plain_search import some_word
from tests.plain_wires import some_wire
from tests.plain_writers import SUMS


def some_writers(seed):
    """Tuples (wire, span, choices, writer)."""
    chance = random.Random(seed)
    cases = [(wire, span, key[1]) for key, (wire, span) in SUMS.items()]
    cases += [(some_wire(chance, 5), chance.randint(1, 6), chance.randint(1, 9)) for _ in range(150)]
    for wire, span, choices in cases:
        try:
            yield wire, span, choices, writer(wire, span, choices)
        except (NothingLeft, LimitExceeded):
            pass


class Wires(TimedCase):
    def test_wires_are_looms_that_read_in_one_way(self):
        chance = random.Random(121)
        for _ in range(150):
            wire = some_wire(chance)
            self.assertEqual([look(wire), one_way(wire), rests(wire), closed(wire)], [0, True, [], []])
            for text in texts_up_to(wire.signs, 3):
                self.assertLessEqual(count(wire, 0, text), 1)
            for length in range(5):
                texts = [text for text in texts_up_to(wire.signs, length) if len(text) == length]
                self.assertEqual(many(wire, length), sum(count(wire, 0, text) for text in texts))
                if length > 0:
                    self.assertEqual(many(wire, length), sum(rows_between(wire, length)[0]))

    def test_written_wires(self):
        chance = random.Random(122)
        for _ in range(100):
            wire = read_loom(write_loom(some_wire(chance)))
            self.assertIs(is_wire(wire), True)
            try:
                self.assertIsNone(parted(wire, read_loom(write_loom(least(wire)))))
            except NothingLeft:
                self.assertEqual(many(wire, 1), 0)

    def test_what_grows_makes_a_writer_and_what_shrinks_none(self):
        chance = random.Random(123)
        for _ in range(150):
            wire, span, choices = some_wire(chance), chance.randint(1, 5), chance.randint(1, 12)
            more, less = grows(wire, span, choices), shrinks(wire, span, choices)
            self.assertIs(more is None, less is not None)
            if more is None:
                self.assertIs(is_shrinking(wire, span, choices, less), True)
                with self.assertRaises(NothingLeft):
                    writer(wire, span, choices)
            else:
                self.assertIs(is_growing(wire, span, choices, more), True)
                if sum(more) <= 64 and sum(more) * choices <= 200:
                    self.assertIs(is_writer(wire, span, choices, writer(wire, span, choices)), True)


class Writers(TimedCase):
    def test_a_writer_is_a_loom_of_one_way(self):
        for _, _, _, (loom, _) in some_writers(124):
            self.assertIs(one_way(loom), True)
            self.assertIs(is_closed(loom, closed(loom)), True)
            self.assertIsNone(double(loom))
            self.assertIsNone(ring(loom))
            covered = longest_covered(loom)
            if look(loom) == 0:
                self.assertIsNone(covered)
            else:
                self.assertIs(is_covered(loom, covered), True)
                self.assertEqual(len(covered[1]), look(loom))
                text = text_of(loom, covered[0], covered[1])
                self.assertEqual(sure(loom, covered[0], text), [])

    def test_a_reader_of_what_is_written(self):
        chance = random.Random(125)
        for wire, span, choices, made in some_writers(126):
            loom, places = made
            numbers = chance.choices(range(choices), k=12)
            text = written(made, numbers)
            reader = Reader(loom, 0)
            told = [number for sign in text for number in reader.take(sign)]
            self.assertEqual([told, reader.told()], [sure(loom, 0, text)] * 2)
            self.assertIs(is_row(loom, 0, told), True)
            line, state = [], 0
            for number in told:
                line.append(leaving(loom, state).index(number))
                state = loom.arcs[number][2]
            self.assertEqual(line, read_back(made, text))
            # The wire comes where the writer stands.
            row = readings(wire, places[0], text_of(loom, 0, told))[0]
            self.assertEqual(end_of(wire, places[0], row), places[end_of(loom, 0, told)])
            self.assertEqual(read_row(write_row(told)), told)

    def test_a_writer_whose_loom_was_a_text(self):
        for wire, span, choices, (loom, places) in some_writers(127):
            again = (read_loom(write_loom(loom)), places)
            self.assertIs(is_writer(wire, span, choices, again), True)
            self.assertEqual(written(again, [choices - 1] * 5), written((loom, places), [choices - 1] * 5))

    def test_a_writer_whose_arcs_stand_in_another_order(self):
        chance = random.Random(128)
        for wire, span, choices, (loom, places) in some_writers(129):
            arcs = chance.sample(loom.arcs, len(loom.arcs))
            made = (Loom(loom.signs, arcs), places)
            self.assertIs(is_writer(wire, span, choices, made), True)
            numbers = chance.choices(range(choices), k=20)
            told = read_back(made, written(made, numbers))
            self.assertEqual(told, numbers[:len(told)])
            self.assertGreaterEqual(len(told), 20 - look(made[0]))


class Books(TimedCase):
    def test_a_desk_that_is_filled(self):
        chance = random.Random(130)
        for _ in range(60):
            desk = Desk("ab")
            desk.put(some_word(chance, "ab", 3))
            desk.fill()
            a_book = desk.book()
            self.assertEqual([is_book(a_book), is_plain(a_book), one_way(a_book), look(a_book)], [True, True, True, 0])
            self.assertEqual([sum_of(a_book), is_full(a_book)], [(1, 1), True])
            self.assertEqual(sorted(base(a_book)), sorted(words(a_book)))
            self.assertIs(meeting(a_book) is None, never(a_book) != [])
            self.assertIs(is_never(a_book, never(a_book)), meeting(a_book) is None)
            self.assertEqual(len(words(a_book)), len(desk))

    def test_books_that_come_of_prices_go_through_pipes(self):
        chance = random.Random(131)
        wire = wire_of("ab", ["aaa", "bbb"])
        for _ in range(30):
            weights = chance.choices(range(1, 20), k=chance.randint(2, 6))
            cheap = cheapest_book("xyz", weights)
            plain = book_of_lengths("xyz", [len(word) for word in words(cheap)])
            self.assertEqual(price(plain, weights), price(cheap, weights))
            for a_book in [cheap, plain]:
                pipe = Pipe(a_book, chance.randint(1, 2), wire, 6)
                numbers = chance.choices(range(len(weights)), k=chance.randint(0, 12))
                text = pipe.write(numbers)
                self.assertEqual(pipe.read(text, len(numbers)), numbers)
                self.assertFalse("aaa" in text or "bbb" in text)
                self.assertIs(is_writer(wire, 6, len(pipe.made[0].arcs) // len(met(pipe.made[0])), pipe.made), True)

    def test_joined_books_on_a_desk(self):
        inner = book("ab", ["aa", "ab", "b"])
        desk = Desk("ab")
        for word in words(joined(inner, book("xyz", ["xy", "z", "x"]))):
            desk.put_one_way(word) if word != "aa" else desk.put(word)
        self.assertEqual(words(desk.book()), ["aaab", "b", "aa"])
        self.assertEqual(words(apart(desk.book(), inner)), ["ab", "c", "a"])
        self.assertEqual(same_texts(desk.book(), inner), "ab")
        desk.attempt([("drop", 2), ("fill",)])
        self.assertEqual(go(desk.book(), "", "aaabb"), ("", [0, 1]))

    def test_slips_of_filled_books_on_wires(self):
        chance = random.Random(132)
        told = {True: 0, False: 0}
        for _ in range(60):
            desk = Desk("ab")
            desk.put(some_word(chance, "ab", 3))
            desk.fill()
            wire = wire_of("ab", [chance.choice(["aa", "bb", "aba", "bab", "aaa"])])
            more = wire_of("ab", ["aaab", "bbb"])
            for barring in [wire, more]:
                answer, thing = heals(desk.book(), barring), stays(desk.book(), barring)
                self.assertIs(answer is None, thing is not None)
                told[answer is None] += 1
                if thing is not None:
                    self.assertIs(is_stays(desk.book(), barring, thing), True)
                    one, other, state, text = thing
                    self.assertEqual([go(desk.book(), begun, text)[0] for begun in [one, other]], [one, other])
                    self.assertEqual(end_of(barring, state, readings(barring, state, text)[0]), state)
        self.assertGreater(min(told.values()), 10)


if __name__ == "__main__":
    unittest.main()
