"""The errors of the interface: their names, their one base, and their attributes in order."""

import unittest

from onewayread import errors

from tests.helpers import ATTRIBUTES


class Errors(unittest.TestCase):
    def test_read_error_is_an_exception(self):
        self.assertEqual(errors.ReadError.__bases__, (Exception,))

    def test_each_error_stands_directly_below_read_error(self):
        for name in ATTRIBUTES:
            with self.subTest(name=name):
                self.assertEqual(getattr(errors, name).__bases__, (errors.ReadError,))

    def test_each_error_is_defined_in_the_file_of_errors(self):
        for name in ["ReadError", *ATTRIBUTES]:
            kind = getattr(errors, name)
            self.assertEqual((kind.__module__, kind.__name__), ("onewayread.errors", name))

    def test_attributes_are_set_in_order_by_position(self):
        for name, attributes in ATTRIBUTES.items():
            with self.subTest(name=name):
                values = ["first", "second"][:len(attributes)]
                error = getattr(errors, name)(*values)
                self.assertEqual([getattr(error, attribute) for attribute in attributes], values)

    def test_each_error_is_caught_as_a_read_error_and_not_as_another_one(self):
        for name, attributes in ATTRIBUTES.items():
            others = tuple(getattr(errors, other) for other in ATTRIBUTES if other != name)
            error = getattr(errors, name)(*[0, 1][:len(attributes)])
            self.assertIsInstance(error, errors.ReadError)
            self.assertNotIsInstance(error, others)


if __name__ == "__main__":
    unittest.main()
