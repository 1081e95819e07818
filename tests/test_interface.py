"""The interface: files, names, arguments by position and by name, kinds of values."""

import inspect
import unittest

from onewayread import looks, looms, rests as rest_file, rows, takers
from onewayread.looks import is_covered, is_ring, longest_covered, look, ring
from onewayread.looms import Loom, leaving, met
from onewayread.rests import closed, double, is_closed, is_double, one_way, rests
from onewayread.rows import count, end_of, is_row, readings, sure, text_of
from onewayread.takers import Reader

from tests.helpers import TimedCase

LOOM = Loom("ab", [(0, "a", 0), (0, "ab", 1), (1, "b", 0), (0, "bb", 0)])

FUNCTIONS = [
    (looms, "leaving", ["loom", "state"]), (looms, "met", ["loom"]),
    (rows, "is_row", ["loom", "state", "thing"]), (rows, "text_of", ["loom", "state", "row"]),
    (rows, "end_of", ["loom", "state", "row"]), (rows, "readings", ["loom", "state", "text"]),
    (rows, "count", ["loom", "state", "text"]), (rows, "sure", ["loom", "state", "text"]),
    (rest_file, "rests", ["loom"]), (rest_file, "one_way", ["loom"]), (rest_file, "double", ["loom"]),
    (rest_file, "is_double", ["loom", "thing"]), (rest_file, "closed", ["loom"]),
    (rest_file, "is_closed", ["loom", "thing"]),
    (looks, "look", ["loom"]), (looks, "is_covered", ["loom", "thing"]), (looks, "longest_covered", ["loom"]),
    (looks, "ring", ["loom"]), (looks, "is_ring", ["loom", "thing"]),
]
METHODS = {"take": ["self", "sign"], "told": ["self"], "text": ["self"], "twin": ["self"]}
ENDLESS = Loom("ab", [(0, "a", 0), (0, "ab", 0), (0, "bb", 0)])
EQUAL = Loom("a", [(0, "a", 1), (0, "a", 1)])


class Interface(TimedCase):
    def test_functions_are_defined_in_their_files_with_their_arguments(self):
        for module, name, arguments in FUNCTIONS:
            with self.subTest(name=name):
                function = getattr(module, name)
                self.assertEqual(function.__module__, module.__name__)
                self.assertEqual(list(inspect.signature(function).parameters), arguments)

    def test_the_loom_is_defined_in_its_file_with_its_own_methods(self):
        self.assertEqual(Loom.__module__, "onewayread.looms")
        self.assertEqual(list(inspect.signature(Loom).parameters), ["signs", "arcs"])
        self.assertIn("__eq__", vars(Loom))
        self.assertIn("__init__", vars(Loom))

    def test_the_reader_is_defined_in_its_file_with_its_own_methods(self):
        self.assertEqual(Reader.__module__, "onewayread.takers")
        self.assertEqual(Reader, takers.Reader)
        self.assertEqual(list(inspect.signature(Reader).parameters), ["loom", "state"])
        for name, arguments in METHODS.items():
            self.assertEqual(list(inspect.signature(vars(Reader)[name]).parameters), arguments)

    def test_arguments_by_name(self):
        loom = Loom(arcs=LOOM.arcs, signs="ab")
        self.assertEqual(loom, LOOM)
        self.assertEqual(leaving(state=0, loom=loom), [0, 1, 3])
        self.assertEqual(met(loom=loom), [0, 1])
        self.assertIs(is_row(thing=[1, 2], state=0, loom=loom), True)
        self.assertEqual(text_of(row=[1, 2], state=0, loom=loom), "abb")
        self.assertEqual(end_of(row=[1], state=0, loom=loom), 1)
        self.assertEqual(readings(text="abb", state=0, loom=loom), [[0, 3], [1, 2]])
        self.assertEqual(count(text="abb", state=0, loom=loom), 2)
        self.assertEqual(sure(text="bb", state=0, loom=loom), [3])

    def test_arguments_by_name_of_readers_rests_and_looks(self):
        reader = Reader(state=0, loom=LOOM)
        self.assertEqual([reader.take(sign="b"), reader.told(), reader.text()], [[3], [3], "b"])
        self.assertEqual(rests(loom=ENDLESS), [(0, 0, "b")])
        self.assertIs(one_way(loom=ENDLESS), True)
        self.assertIsNone(double(loom=ENDLESS))
        self.assertIs(is_double(thing=(0, [0], [1]), loom=EQUAL), True)
        self.assertEqual(closed(loom=ENDLESS), [(0, 0, "b")])
        self.assertIs(is_closed(thing=[(0, 0, "b")], loom=ENDLESS), True)
        self.assertEqual(look(loom=EQUAL), 1)
        self.assertIs(is_covered(thing=(0, [0], [1]), loom=EQUAL), True)
        self.assertEqual(longest_covered(loom=ENDLESS), None)
        self.assertIsNone(ring(loom=EQUAL))
        self.assertIs(is_ring(thing=(0, [0], [1], [2], [2]), loom=ENDLESS), True)

    def test_kinds_of_values(self):
        self.assertIs(LOOM.signs.__class__, str)
        self.assertIs(LOOM.arcs.__class__, tuple)
        self.assertIs(leaving(LOOM, 0).__class__, list)
        self.assertIs(met(LOOM).__class__, list)
        self.assertIs(is_row(LOOM, 0, []), True)
        self.assertIs(is_row(LOOM, 0, [2]), False)
        self.assertIs(text_of(LOOM, 0, [0]).__class__, str)
        self.assertIs(end_of(LOOM, 0, (0,)).__class__, int)
        self.assertIs(count(LOOM, 0, "a").__class__, int)
        self.assertIs(count(LOOM, 0, "").__class__, int)
        found = readings(LOOM, 0, "abb")
        self.assertEqual([found.__class__, found[0].__class__], [list, list])
        self.assertIs(sure(LOOM, 0, "a").__class__, list)

    def test_kinds_of_values_of_readers_rests_and_looks(self):
        reader = Reader(LOOM, 0)
        self.assertEqual([reader.take("a").__class__, reader.told().__class__, reader.text().__class__],
                         [list, list, str])
        self.assertIs(reader.twin().__class__, Reader)
        self.assertEqual([rests(ENDLESS).__class__, rests(ENDLESS)[0].__class__], [list, tuple])
        self.assertEqual([one_way(ENDLESS), one_way(EQUAL)], [True, False])
        self.assertEqual([one_way(ENDLESS).__class__, look(EQUAL).__class__], [bool, int])
        self.assertEqual([value.__class__ for value in double(EQUAL)], [int, list, list])
        self.assertEqual([closed(ENDLESS).__class__, closed(EQUAL)], [list, None])
        self.assertEqual([value.__class__ for value in longest_covered(EQUAL)], [int, list, list])
        self.assertEqual([value.__class__ for value in ring(ENDLESS)], [int, list, list, list, list])


class WorkedExamples(TimedCase):
    def test_the_first_one(self):
        loom = Loom("ab", [(0, "a", 0), (0, "ab", 1), (1, "b", 0), (0, "bb", 0)])
        told = [readings(loom, 0, "abb"), count(loom, 0, "abbb"), sure(loom, 0, "ab"), sure(loom, 1, "a")]
        self.assertEqual(told, [[[0, 3], [1, 2]], 0, [], None])

    def test_the_second_one(self):
        reader = Reader(Loom("ab", [(0, "aab", 0), (0, "b", 0)]), 0)
        told = [reader.take("b"), reader.take("a"), reader.take("a"), reader.told(), reader.text()]
        self.assertEqual(told, [[1], [0], [], [1, 0], "baa"])

    def test_the_third_one(self):
        loom = Loom("ab", [(0, "a", 0), (0, "ab", 0), (0, "bb", 0)])
        told = [one_way(loom), rests(loom), closed(loom) == rests(loom)]
        self.assertEqual(told, [True, [(0, 0, "b")], True])

    def test_the_fourth_one(self):
        endless = Loom("ab", [(0, "a", 0), (0, "ab", 0), (0, "bb", 0)])
        looms_told = [endless, Loom("a", [(0, "a", 1), (0, "a", 1)]), Loom("ab", [(0, "a", 0), (0, "b", 0)])]
        self.assertEqual([look(loom) for loom in looms_told], [None, 1, 0])


if __name__ == "__main__":
    unittest.main()
