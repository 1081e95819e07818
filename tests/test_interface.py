"""The interface: files, names, arguments by position and by name, kinds of values."""

import inspect
import unittest

from onewayread import books, growth, healing, joins, looks, looms, prices, readers, rests as rest_file, rows, takers
from onewayread import desk as desk_file, pages, pipes, wires, writers
from onewayread.books import barred, book, is_book, is_full, sum_of, words
from onewayread.desk import Desk
from onewayread.growth import grows, is_growing, is_shrinking, shrinks
from onewayread.healing import heals, is_stays, stays
from onewayread.joins import apart, base, joined, same_texts
from onewayread.looks import is_covered, is_ring, longest_covered, look, ring
from onewayread.looms import Loom, leaving, met
from onewayread.pages import read_loom, read_row, write_loom, write_row
from onewayread.pipes import Pipe
from onewayread.prices import book_of_lengths, cheapest, cheapest_book, cheapest_in_order, cheapest_within, price
from onewayread.readers import go, is_never, is_plain, meeting, never, standings
from onewayread.rests import closed, double, is_closed, is_double, one_way, rests
from onewayread.rows import count, end_of, is_row, readings, sure, text_of
from onewayread.takers import Reader
from onewayread.wires import is_wire, least, many, parted, rows_between, wire_of
from onewayread.writers import is_writer, read_back, writer, written

from tests.helpers import TimedCase

LOOM = Loom("ab", [(0, "a", 0), (0, "ab", 1), (1, "b", 0), (0, "bb", 0)])

FUNCTIONS = [
    (looms, "leaving", ["loom", "state"]), (looms, "met", ["loom"]),
    (rows, "is_row", ["loom", "state", "thing"]), (rows, "text_of", ["loom", "state", "row"]),
    (rows, "end_of", ["loom", "state", "row"]), (rows, "readings", ["loom", "state", "text"]),
    (rows, "count", ["loom", "state", "text"]), (rows, "sure", ["loom", "state", "text"]),
    (rest_file, "rests", ["loom"]), (rest_file, "one_way", ["loom"]), (rest_file, "double", ["loom"]),
    (rest_file, "is_double", ["loom", "thing"]), (rest_file, "closed", ["loom"]),
    (rest_file, "is_closed", ["loom", "thing"]),
    (looks, "look", ["loom"]), (looks, "is_covered", ["loom", "thing"]), (looks, "longest_covered", ["loom"]),
    (looks, "ring", ["loom"]), (looks, "is_ring", ["loom", "thing"]),
    (books, "book", ["signs", "words"]), (books, "words", ["a_book"]), (books, "is_book", ["thing"]),
    (books, "sum_of", ["a_book"]), (books, "barred", ["a_book"]), (books, "is_full", ["a_book"]),
    (joins, "base", ["a_book"]), (joins, "same_texts", ["one", "other"]), (joins, "joined", ["a_book", "outer"]),
    (joins, "apart", ["a_book", "inner"]),
    (readers, "is_plain", ["a_book"]), (readers, "standings", ["a_book"]),
    (readers, "go", ["a_book", "standing", "text"]), (readers, "meeting", ["a_book"]),
    (readers, "never", ["a_book"]), (readers, "is_never", ["a_book", "thing"]),
    (prices, "book_of_lengths", ["signs", "lengths"]), (prices, "price", ["a_book", "weights"]),
    (prices, "cheapest", ["signs", "weights"]), (prices, "cheapest_within", ["signs", "weights", "most"]),
    (prices, "cheapest_in_order", ["signs", "weights"]), (prices, "cheapest_book", ["signs", "weights"]),
    (wires, "is_wire", ["thing"]), (wires, "wire_of", ["signs", "bars"]), (wires, "least", ["wire"]),
    (wires, "parted", ["one", "other"]), (wires, "many", ["wire", "length"]),
    (wires, "rows_between", ["wire", "span"]),
    (healing, "heals", ["a_book", "wire"]), (healing, "stays", ["a_book", "wire"]),
    (healing, "is_stays", ["a_book", "wire", "thing"]),
    (growth, "is_growing", ["wire", "span", "choices", "thing"]),
    (growth, "is_shrinking", ["wire", "span", "choices", "thing"]),
    (growth, "grows", ["wire", "span", "choices"]), (growth, "shrinks", ["wire", "span", "choices"]),
    (writers, "writer", ["wire", "span", "choices"]), (writers, "is_writer", ["wire", "span", "choices", "thing"]),
    (writers, "written", ["made", "numbers"]), (writers, "read_back", ["made", "text"]),
    (pages, "write_loom", ["loom"]), (pages, "write_row", ["row"]), (pages, "read_loom", ["text"]),
    (pages, "read_row", ["text"]),
]
# By classes: the file, the arguments, and the methods with theirs.
CLASSES = {
    Loom: (looms, ["signs", "arcs"], {"__eq__": ["other"]}),
    Reader: (takers, ["loom", "state"], {"take": ["sign"], "told": [], "text": [], "twin": []}),
    Pipe: (pipes, ["a_book", "group", "wire", "span"], {"write": ["numbers"], "read": ["text", "count"]}),
    Desk: (desk_file, ["signs"], {
        "__len__": [], "__getitem__": ["at"], "__contains__": ["x"], "__eq__": ["other"], "__iter__": [], "book": [],
        "put": ["word"], "drop": ["at"], "turn": ["at", "word"], "put_one_way": ["word"], "fill": [], "undo": [],
        "redo": [], "attempt": ["deeds"], "twin": []}),
}
ENDLESS = Loom("ab", [(0, "a", 0), (0, "ab", 0), (0, "bb", 0)])
EQUAL = Loom("a", [(0, "a", 1), (0, "a", 1)])
PLAIN = book("ab", ["b", "aa", "ab"])
EVEN = book("ab", ["aa", "ab", "ba", "bb"])
GOLDEN = wire_of("ab", ["bb"])


class Interface(TimedCase):
    def test_functions_are_defined_in_their_files_with_their_arguments(self):
        for module, name, arguments in FUNCTIONS:
            with self.subTest(name=name):
                function = getattr(module, name)
                self.assertEqual(function.__module__, module.__name__)
                self.assertEqual(list(inspect.signature(function).parameters), arguments)

    def test_classes_are_defined_in_their_files_with_their_own_methods(self):
        for made, (module, arguments, methods) in CLASSES.items():
            with self.subTest(name=made.__name__):
                self.assertEqual(made.__module__, module.__name__)
                self.assertEqual(list(inspect.signature(made).parameters), arguments)
                self.assertIn("__init__", vars(made))
                for name, names in methods.items():
                    self.assertEqual(list(inspect.signature(vars(made)[name]).parameters), ["self", *names])

    def test_arguments_by_name(self):
        loom = Loom(arcs=LOOM.arcs, signs="ab")
        self.assertEqual(loom, LOOM)
        self.assertEqual(leaving(state=0, loom=loom), [0, 1, 3])
        self.assertEqual(met(loom=loom), [0, 1])
        self.assertIs(is_row(thing=[1, 2], state=0, loom=loom), True)
        self.assertEqual(text_of(row=[1, 2], state=0, loom=loom), "abb")
        self.assertEqual(end_of(row=[1], state=0, loom=loom), 1)
        self.assertEqual(readings(text="abb", state=0, loom=loom), [[0, 3], [1, 2]])
        self.assertEqual(count(text="abb", state=0, loom=loom), 2)
        self.assertEqual(sure(text="bb", state=0, loom=loom), [3])

    def test_arguments_by_name_of_readers_rests_and_looks(self):
        reader = Reader(state=0, loom=LOOM)
        self.assertEqual([reader.take(sign="b"), reader.told(), reader.text()], [[3], [3], "b"])
        self.assertEqual(rests(loom=ENDLESS), [(0, 0, "b")])
        self.assertIs(one_way(loom=ENDLESS), True)
        self.assertIsNone(double(loom=ENDLESS))
        self.assertIs(is_double(thing=(0, [0], [1]), loom=EQUAL), True)
        self.assertEqual(closed(loom=ENDLESS), [(0, 0, "b")])
        self.assertIs(is_closed(thing=[(0, 0, "b")], loom=ENDLESS), True)
        self.assertEqual(look(loom=EQUAL), 1)
        self.assertIs(is_covered(thing=(0, [0], [1]), loom=EQUAL), True)
        self.assertEqual(longest_covered(loom=ENDLESS), None)
        self.assertIsNone(ring(loom=EQUAL))
        self.assertIs(is_ring(thing=(0, [0], [1], [2], [2]), loom=ENDLESS), True)

    def test_arguments_by_name_of_books_and_prices(self):
        made = book(words=["b", "aa", "ab"], signs="ab")
        self.assertEqual(made, PLAIN)
        self.assertEqual([words(a_book=made), is_book(thing=made), sum_of(a_book=made)],
                         [["b", "aa", "ab"], True, (1, 1)])
        self.assertEqual([barred(a_book=made), is_full(a_book=made)], [None, True])
        self.assertEqual(base(a_book=made), ["b", "aa", "ab"])
        self.assertIsNone(same_texts(other=made, one=made))
        outer = book("abc", ["b", "c", "a"])
        self.assertEqual(joined(outer=outer, a_book=made), book("ab", ["aa", "ab", "b"]))
        self.assertEqual(apart(inner=made, a_book=book("ab", ["aa", "ab", "b"])), outer)
        self.assertEqual([is_plain(a_book=made), standings(a_book=made)], [True, ["", "a"]])
        self.assertEqual(go(text="ba", standing="a", a_book=made), ("a", [2]))
        self.assertEqual([meeting(a_book=made), never(a_book=made)], ["b", []])
        self.assertIs(is_never(thing=[("", "a"), ("b", "")], a_book=EVEN), True)
        self.assertEqual(book_of_lengths(lengths=[1, 2], signs="ab"), book("ab", ["a", "ba"]))
        self.assertEqual(price(weights=[1, 1, 1], a_book=made), 5)
        self.assertEqual([cheapest(weights=[1, 2], signs="ab"), cheapest_within(most=1, weights=[1, 2], signs="ab"),
                          cheapest_in_order(weights=[1, 2], signs="ab")], [3, 3, 3])
        self.assertEqual(price(cheapest_book(weights=[1, 2], signs="ab"), [1, 2]), 3)

    def test_arguments_by_name_of_wires(self):
        self.assertEqual([is_wire(thing=GOLDEN), wire_of(bars=["bb"], signs="ab")], [True, GOLDEN])
        self.assertEqual([least(wire=GOLDEN), parted(other=GOLDEN, one=wire_of("ab", []))], [GOLDEN, "bb"])
        self.assertEqual([many(length=3, wire=GOLDEN), rows_between(span=3, wire=GOLDEN)], [5, [[3, 2], [2, 1]]])
        self.assertEqual(heals(wire=GOLDEN, a_book=PLAIN), None)
        self.assertEqual(heals(wire=wire_of("ab", ["aa"]), a_book=PLAIN), 2)
        self.assertIs(is_stays(thing=stays(wire=GOLDEN, a_book=PLAIN), wire=GOLDEN, a_book=PLAIN), True)
        self.assertIs(is_growing(thing=[5, 3], choices=11, span=5, wire=GOLDEN), True)
        self.assertIs(is_shrinking(thing=[3, 2], choices=2, span=1, wire=GOLDEN), True)
        self.assertEqual([grows(choices=11, span=5, wire=GOLDEN), shrinks(choices=2, span=2, wire=GOLDEN)],
                         [[8, 5], None])

    def test_arguments_by_name_of_writers_and_pipes(self):
        made = writer(choices=2, span=2, wire=GOLDEN)
        self.assertIs(is_writer(thing=made, choices=2, span=2, wire=GOLDEN), True)
        text = written(numbers=[1, 0], made=made)
        self.assertEqual(text, written(made, [1, 0]))
        self.assertEqual(read_back(text=text, made=made), read_back(made, text))
        pipe = Pipe(span=2, wire=GOLDEN, group=1, a_book=PLAIN)
        self.assertEqual(pipe.made, made)
        self.assertEqual(pipe.read(count=2, text=pipe.write(numbers=[2, 0])), [2, 0])

    def test_arguments_by_name_of_pages_and_the_desk(self):
        self.assertEqual(read_loom(text=write_loom(loom=LOOM)), LOOM)
        self.assertEqual([write_row(row=[1, 2]), read_row(text="1 2")], ["1 2", [1, 2]])
        desk = Desk(signs="ab")
        desk.put(word="ab")
        desk.put_one_way(word="b")
        desk.turn(word="aa", at=0)
        desk.drop(at=1)
        desk.attempt(deeds=[("put", "b")])
        self.assertEqual([desk.signs, desk.book()], ["ab", book("ab", ["aa", "b"])])

    def test_kinds_of_values(self):
        self.assertIs(LOOM.signs.__class__, str)
        self.assertIs(LOOM.arcs.__class__, tuple)
        self.assertIs(leaving(LOOM, 0).__class__, list)
        self.assertIs(met(LOOM).__class__, list)
        self.assertIs(is_row(LOOM, 0, []), True)
        self.assertIs(is_row(LOOM, 0, [2]), False)
        self.assertIs(text_of(LOOM, 0, [0]).__class__, str)
        self.assertIs(end_of(LOOM, 0, (0,)).__class__, int)
        self.assertIs(count(LOOM, 0, "a").__class__, int)
        self.assertIs(count(LOOM, 0, "").__class__, int)
        found = readings(LOOM, 0, "abb")
        self.assertEqual([found.__class__, found[0].__class__], [list, list])
        self.assertIs(sure(LOOM, 0, "a").__class__, list)

    def test_kinds_of_values_of_readers_rests_and_looks(self):
        reader = Reader(LOOM, 0)
        self.assertEqual([reader.take("a").__class__, reader.told().__class__, reader.text().__class__],
                         [list, list, str])
        self.assertIs(reader.twin().__class__, Reader)
        self.assertEqual([rests(ENDLESS).__class__, rests(ENDLESS)[0].__class__], [list, tuple])
        self.assertEqual([one_way(ENDLESS), one_way(EQUAL)], [True, False])
        self.assertEqual([one_way(ENDLESS).__class__, look(EQUAL).__class__], [bool, int])
        self.assertEqual([value.__class__ for value in double(EQUAL)], [int, list, list])
        self.assertEqual([closed(ENDLESS).__class__, closed(EQUAL)], [list, None])
        self.assertEqual([value.__class__ for value in longest_covered(EQUAL)], [int, list, list])
        self.assertEqual([value.__class__ for value in ring(ENDLESS)], [int, list, list, list, list])

    def test_kinds_of_values_of_books_and_prices(self):
        self.assertEqual([book("ab", ["a"]).__class__, words(PLAIN).__class__, sum_of(PLAIN).__class__],
                         [Loom, list, tuple])
        self.assertEqual([is_book(PLAIN).__class__, is_full(PLAIN).__class__, is_plain(PLAIN).__class__], [bool] * 3)
        self.assertEqual([barred(book("ab", ["a"])).__class__, base(PLAIN).__class__], [str, list])
        self.assertIs(same_texts(PLAIN, book("ab", ["a"])).__class__, str)
        self.assertEqual([standings(PLAIN).__class__, go(PLAIN, "", "ab").__class__, go(PLAIN, "", "ab")[1].__class__],
                         [list, tuple, list])
        self.assertEqual([meeting(PLAIN).__class__, never(EVEN).__class__], [str, list])
        self.assertIs(never(EVEN)[0].__class__, tuple)
        self.assertEqual([is_never(EVEN, never(EVEN)), is_never(EVEN, [])], [True, False])
        self.assertEqual([book_of_lengths("ab", [1]).__class__, cheapest_book("ab", [1, 2]).__class__], [Loom, Loom])
        told = [price(PLAIN, [0, 0, 0]), cheapest("ab", [0, 0]), cheapest_within("ab", [0], 1),
                cheapest_in_order("ab", [0, 0, 0])]
        self.assertEqual([[value, value.__class__] for value in told], [[0, int]] * 4)

    def test_kinds_of_values_of_wires(self):
        self.assertEqual([value.__class__ for value in [GOLDEN, least(GOLDEN), is_wire(0), is_wire(GOLDEN)]],
                         [Loom, Loom, bool, bool])
        self.assertEqual([many(GOLDEN, 0).__class__, parted(GOLDEN, wire_of("ab", [])).__class__], [int, str])
        self.assertEqual([rows_between(GOLDEN, 2).__class__, rows_between(GOLDEN, 2)[0].__class__], [list, list])
        self.assertEqual({number.__class__ for line in rows_between(GOLDEN, 2) for number in line}, {int})
        self.assertEqual([heals(PLAIN, wire_of("ab", ["aa"])).__class__, stays(PLAIN, GOLDEN).__class__], [int, tuple])
        self.assertEqual([value.__class__ for value in stays(PLAIN, GOLDEN)], [str, str, int, str])
        told = [is_stays(PLAIN, GOLDEN, 0), is_growing(GOLDEN, 1, 1, 0), is_shrinking(GOLDEN, 1, 1, 0)]
        self.assertEqual([value.__class__ for value in told], [bool] * 3)
        for told in [grows(GOLDEN, 1, 1), shrinks(GOLDEN, 1, 2)]:
            self.assertEqual([told.__class__, *[number.__class__ for number in told]], [list, int, int])

    def test_kinds_of_values_of_writers_and_pipes(self):
        made = writer(GOLDEN, 2, 2)
        self.assertEqual([made.__class__, made[0].__class__, made[1].__class__], [tuple, Loom, tuple])
        self.assertEqual([is_writer(GOLDEN, 2, 2, made), is_writer(GOLDEN, 2, 2, None)], [True, False])
        self.assertEqual([is_writer(GOLDEN, 2, 2, made).__class__, written(made, [0]).__class__], [bool, str])
        self.assertEqual([read_back(made, "").__class__, read_back(made, "bb")], [list, None])
        pipe = Pipe(PLAIN, 1, GOLDEN, 2)
        told = [pipe.made, pipe.write([]), pipe.read("", 0)]
        self.assertEqual([value.__class__ for value in told], [tuple, str, list])

    def test_kinds_of_values_of_pages_and_the_desk(self):
        told = [write_loom(LOOM), write_row([]), read_row("-"), read_loom(write_loom(LOOM))]
        self.assertEqual([value.__class__ for value in told], [str, str, list, Loom])
        desk = Desk("ab")
        for call, arguments in [(desk.put, ["a"]), (desk.put_one_way, ["b"]), (desk.turn, [0, "aa"]), (desk.fill, []),
                                (desk.drop, [0]), (desk.undo, []), (desk.redo, []), (desk.attempt, [[]])]:
            self.assertIsNone(call(*arguments))
        self.assertEqual([len(desk), desk[0], "b" in desk, "a" in desk], [2, "b", True, False])
        self.assertEqual([desk.signs.__class__, desk.book().__class__, desk.twin().__class__], [str, Loom, Desk])
        self.assertIs((desk == desk.twin()).__class__, bool)


if __name__ == "__main__":
    unittest.main()
