"""Point 3: the error classes."""

import copy
import pickle
import unittest

from lineends import errors
from lineends.errors import LineError

NAMES = ["InvalidChain", "InvalidRun", "InvalidForm", "InvalidNumber", "InvalidPlace", "UnknownName", "NothingToUndo",
         "Unreadable"]
VALUES = [0, 3, -1, 10 ** 5000, None, "", "a\nb^", ("keep", 0, 1), [1, 2]]


class ErrorsTest(unittest.TestCase):
    def setUp(self):
        self.classes = [getattr(errors, name) for name in NAMES]

    def test_line_error_is_a_direct_subclass_of_value_error(self):
        self.assertEqual(LineError.__bases__, (ValueError,))

    def test_each_other_class_is_a_direct_subclass_of_line_error(self):
        for each in self.classes:
            self.assertEqual(each.__bases__, (LineError,), each)

    def test_no_other_class_is_a_subclass_of_another_one(self):
        for each in self.classes:
            for other in self.classes:
                self.assertEqual(issubclass(each, other), each is other, (each, other))

    def test_each_class_has_its_own_name_and_file(self):
        for name, each in zip(NAMES, self.classes):
            self.assertEqual((each.__name__, each.__module__), (name, "lineends.errors"))
            self.assertIn("__init__", vars(each))

    def test_no_further_error_class(self):
        found = [name for name, each in vars(errors).items() if isinstance(each, type)]
        self.assertEqual(sorted(found), sorted(NAMES + ["LineError"]))

    def test_value_by_position(self):
        for each in self.classes:
            for value in VALUES:
                self.assertIs(each(value).value, value)

    def test_value_by_name(self):
        for each in self.classes:
            for value in VALUES:
                self.assertIs(each(value=value).value, value)

    def test_exactly_one_argument(self):
        for each in self.classes:
            with self.assertRaises(TypeError):
                each()
            with self.assertRaises(TypeError):
                each(1, 2)
            with self.assertRaises(TypeError):
                each(index=1)

    def test_every_error_can_be_printed(self):
        # Python itself refuses to print a number of more than 4300 digits.
        for each in self.classes:
            for value in VALUES:
                self.assertNotEqual(str(each(value)), "")

    def test_a_copied_error_keeps_its_value(self):
        for each in self.classes:
            for made in [each("word"), each(value="word")]:
                for again in [copy.copy(made), pickle.loads(pickle.dumps(made))]:
                    self.assertIs(type(again), each)
                    self.assertEqual(again.value, "word")

    def test_an_error_is_caught_as_line_error_and_as_value_error(self):
        for each in self.classes:
            for wide in [LineError, ValueError]:
                with self.assertRaises(wide):
                    raise each(None)
