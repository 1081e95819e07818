"""The worked examples of the document."""

import unittest

from onewayread.books import barred, book, is_full, sum_of, words
from onewayread.desk import Desk
from onewayread.errors import InvalidPage
from onewayread.growth import grows, is_growing, is_shrinking, shrinks
from onewayread.healing import heals, is_stays, stays
from onewayread.joins import apart, base, joined, same_texts
from onewayread.looks import look
from onewayread.looms import Loom
from onewayread.pages import read_loom, read_row, write_loom, write_row
from onewayread.pipes import Pipe
from onewayread.prices import book_of_lengths, cheapest, cheapest_in_order, cheapest_within
from onewayread.readers import go, meeting, never, standings
from onewayread.rests import closed, one_way, rests
from onewayread.rows import count, readings, sure
from onewayread.takers import Reader
from onewayread.wires import many, parted, rows_between, wire_of
from onewayread.writers import is_writer, read_back, written

from tests.helpers import TimedCase, check_error


class WorkedExamples(TimedCase):
    def test_the_first_one(self):
        loom = Loom("ab", [(0, "a", 0), (0, "ab", 1), (1, "b", 0), (0, "bb", 0)])
        told = [readings(loom, 0, "abb"), count(loom, 0, "abbb"), sure(loom, 0, "ab"), sure(loom, 1, "a")]
        self.assertEqual(told, [[[0, 3], [1, 2]], 0, [], None])

    def test_the_second_one(self):
        reader = Reader(Loom("ab", [(0, "aab", 0), (0, "b", 0)]), 0)
        told = [reader.take("b"), reader.take("a"), reader.take("a"), reader.told(), reader.text()]
        self.assertEqual(told, [[1], [0], [], [1, 0], "baa"])

    def test_the_third_one(self):
        loom = Loom("ab", [(0, "a", 0), (0, "ab", 0), (0, "bb", 0)])
        told = [one_way(loom), rests(loom), closed(loom) == rests(loom)]
        self.assertEqual(told, [True, [(0, 0, "b")], True])

    def test_the_fourth_one(self):
        endless = Loom("ab", [(0, "a", 0), (0, "ab", 0), (0, "bb", 0)])
        looms_told = [endless, Loom("a", [(0, "a", 1), (0, "a", 1)]), Loom("ab", [(0, "a", 0), (0, "b", 0)])]
        self.assertEqual([look(loom) for loom in looms_told], [None, 1, 0])

    def test_the_fifth_one(self):
        made = book("ab", ["aa", "ab", "b"])
        told = [sum_of(made), barred(made), is_full(made), barred(book("ab", ["aa", "b"]))]
        self.assertEqual(told, [(1, 1), None, True, "bab"])

    def test_the_sixth_one(self):
        inner = book("ab", ["aa", "b"])
        made = joined(inner, book("xy", ["xy", "y"]))
        told = [base(book("ab", ["ab", "a", "aab", "b", "a"])),
                same_texts(book("ab", ["a", "ab"]), book("ab", ["a", "aab"])), words(made), words(apart(made, inner))]
        self.assertEqual(told, [["a", "b"], "ab", ["aab", "b"], ["ab", "b"]])

    def test_the_seventh_and_the_eighth_one(self):
        plain = book("ab", ["b", "aa", "ab"])
        told = [standings(plain), go(plain, "", "baab"), meeting(plain), never(plain)]
        self.assertEqual(told, [["", "a"], ("", [0, 1, 0]), "b", []])
        self.assertEqual(never(book("ab", ["aa", "ab", "ba", "bb"])), [("", "a"), ("", "b")])

    def test_the_ninth_one(self):
        told = [words(book_of_lengths("ab", [3, 1, 2, 3])), cheapest("ab", [5, 1, 1, 5]),
                cheapest_within("ab", [5, 1, 1, 5], 2), cheapest_in_order("ab", [1, 5, 5, 1]), cheapest("a", [3, 4])]
        self.assertEqual(told, [["bba", "a", "ba", "bbb"], 21, 24, 24, None])

    def test_the_tenth_one(self):
        golden = wire_of("ab", ["bb"])
        told = [golden.arcs, [many(golden, length) for length in [0, 1, 2, 3, 10]], rows_between(golden, 3),
                parted(golden, wire_of("ab", ["bbb"])), parted(golden, wire_of("ab", ["bb", "abb"]))]
        self.assertEqual(told, [((0, "a", 0), (0, "b", 1), (1, "a", 0)), [1, 2, 3, 5, 144], [[3, 2], [2, 1]],
                                "bb", None])

    def test_the_eleventh_one(self):
        plain = book("ab", ["b", "aa", "ab"])
        full, some = wire_of("ab", []), wire_of("ab", ["aa"])
        told = [heals(plain, some), stays(plain, some), heals(plain, full), is_stays(plain, full, ("", "a", 0, "aa"))]
        self.assertEqual(told, [2, None, None, True])

    def test_the_twelfth_one(self):
        golden = wire_of("ab", ["bb"])
        told = [grows(golden, 1, 2), grows(golden, 2, 2), grows(golden, 3, 4), grows(golden, 5, 11),
                is_growing(golden, 5, 11, [5, 3]), is_shrinking(golden, 1, 2, [3, 2]), shrinks(golden, 2, 2)]
        self.assertEqual(told, [None, [1, 1], [2, 1], [8, 5], True, True, None])

    def test_the_thirteenth_one(self):
        made = (Loom("ab", [(0, "aa", 0), (0, "ab", 0)]), (0,))
        full = Loom("ab", [(0, "a", 0), (0, "b", 0)])
        told = [is_writer(full, 2, 2, made), is_writer(full, 1, 2, made), written(made, [1, 0, 1]),
                read_back(made, "abaaab"), read_back(made, "abba")]
        self.assertEqual(told, [True, False, "abaaab", [1, 0, 1], None])

    def test_the_fourteenth_one(self):
        pipe = Pipe(book("xy", ["x", "yx", "yy"]), 1, Loom("ab", [(0, "a", 0), (0, "b", 0)]), 2)
        text = pipe.write([2, 0, 1])
        self.assertEqual([pipe.read(text, 3), pipe.read(text, 2), pipe.read(text, 0)], [[2, 0, 1], [2, 0], []])

    def test_the_fifteenth_one(self):
        lines = write_loom(Loom("ab", [(0, "ab", 1), (1, "b", 0)])).split("\n")
        told = [lines, write_row([3, 0, 12]), write_row(()), read_row("-"), read_row("7 7")]
        self.assertEqual(told, [["signs ab", "arc 0 ab 1", "arc 1 b 0", ""], "3 0 12", "-", [], [7, 7]])

    def test_the_sixteenth_one(self):
        check_error(self, InvalidPage, [3], read_loom, "signs ab\narc 0 ab 1\narc 01 b 0\n")

    def test_the_seventeenth_one(self):
        desk = Desk("ab")
        desk.put("aa")
        desk.put("b")
        desk.fill()
        row = [len(desk), desk[2], "ab" in desk]
        desk.undo()
        desk.attempt([("drop", 0), ("put", "ba"), ("undo",), ("redo",)])
        self.assertEqual(row + [len(desk), desk[0], desk[1]], [3, "ab", True, 2, "b", "ba"])


if __name__ == "__main__":
    unittest.main()
