"""The interface: files, names, arguments by position and by name, kinds of values."""

import inspect
import unittest

from onewayread import looms, rows
from onewayread.looms import Loom, leaving, met
from onewayread.rows import count, end_of, is_row, readings, sure, text_of

from tests.helpers import TimedCase

LOOM = Loom("ab", [(0, "a", 0), (0, "ab", 1), (1, "b", 0), (0, "bb", 0)])

FUNCTIONS = [
    (looms, "leaving", ["loom", "state"]), (looms, "met", ["loom"]),
    (rows, "is_row", ["loom", "state", "thing"]), (rows, "text_of", ["loom", "state", "row"]),
    (rows, "end_of", ["loom", "state", "row"]), (rows, "readings", ["loom", "state", "text"]),
    (rows, "count", ["loom", "state", "text"]), (rows, "sure", ["loom", "state", "text"]),
]


class Interface(TimedCase):
    def test_functions_are_defined_in_their_files_with_their_arguments(self):
        for module, name, arguments in FUNCTIONS:
            with self.subTest(name=name):
                function = getattr(module, name)
                self.assertEqual(function.__module__, module.__name__)
                self.assertEqual(list(inspect.signature(function).parameters), arguments)

    def test_the_loom_is_defined_in_its_file_with_its_own_methods(self):
        self.assertEqual(Loom.__module__, "onewayread.looms")
        self.assertEqual(list(inspect.signature(Loom).parameters), ["signs", "arcs"])
        self.assertIn("__eq__", vars(Loom))
        self.assertIn("__init__", vars(Loom))

    def test_arguments_by_name(self):
        loom = Loom(arcs=LOOM.arcs, signs="ab")
        self.assertEqual(loom, LOOM)
        self.assertEqual(leaving(state=0, loom=loom), [0, 1, 3])
        self.assertEqual(met(loom=loom), [0, 1])
        self.assertIs(is_row(thing=[1, 2], state=0, loom=loom), True)
        self.assertEqual(text_of(row=[1, 2], state=0, loom=loom), "abb")
        self.assertEqual(end_of(row=[1], state=0, loom=loom), 1)
        self.assertEqual(readings(text="abb", state=0, loom=loom), [[0, 3], [1, 2]])
        self.assertEqual(count(text="abb", state=0, loom=loom), 2)
        self.assertEqual(sure(text="bb", state=0, loom=loom), [3])

    def test_kinds_of_values(self):
        self.assertIs(LOOM.signs.__class__, str)
        self.assertIs(LOOM.arcs.__class__, tuple)
        self.assertIs(leaving(LOOM, 0).__class__, list)
        self.assertIs(met(LOOM).__class__, list)
        self.assertIs(is_row(LOOM, 0, []), True)
        self.assertIs(is_row(LOOM, 0, [2]), False)
        self.assertIs(text_of(LOOM, 0, [0]).__class__, str)
        self.assertIs(end_of(LOOM, 0, (0,)).__class__, int)
        self.assertIs(count(LOOM, 0, "a").__class__, int)
        self.assertIs(count(LOOM, 0, "").__class__, int)
        found = readings(LOOM, 0, "abb")
        self.assertEqual([found.__class__, found[0].__class__], [list, list])
        self.assertIs(sure(LOOM, 0, "a").__class__, list)


class WorkedExample(TimedCase):
    def test_the_first_one(self):
        loom = Loom("ab", [(0, "a", 0), (0, "ab", 1), (1, "b", 0), (0, "bb", 0)])
        told = [readings(loom, 0, "abb"), count(loom, 0, "abbb"), sure(loom, 0, "ab"), sure(loom, 1, "a")]
        self.assertEqual(told, [[[0, 3], [1, 2]], 0, [], None])


if __name__ == "__main__":
    unittest.main()
