"""The error classes: [0.5] and the list of the interface."""

import unittest

from fewfetches import errors
from tests.helpers import ERRORS


class TestErrors(unittest.TestCase):
    def test_there_are_forty_five(self):
        self.assertEqual(len(ERRORS), 45)
        for name in ERRORS:
            self.assertTrue(isinstance(getattr(errors, name), type), name)

    def test_fetch_error_stands_under_value_error(self):
        self.assertEqual(errors.FetchError.__bases__, (ValueError,))

    def test_each_class_stands_straight_under_fetch_error(self):
        for name in ERRORS:
            self.assertEqual(getattr(errors, name).__bases__, (errors.FetchError,), name)

    def test_no_class_is_another_one(self):
        for one in ERRORS:
            for other in ERRORS:
                alike = issubclass(getattr(errors, one), getattr(errors, other))
                self.assertEqual(alike, one == other, (one, other))

    def test_names_and_homes(self):
        for name in ["FetchError", *ERRORS]:
            self.assertEqual(getattr(errors, name).__name__, name)
            self.assertEqual(getattr(errors, name).__module__, "fewfetches.errors")

    def test_attributes_are_the_parameters_by_position(self):
        for name, attributes in ERRORS.items():
            given = [[attribute, {"a": [1]}] for attribute in attributes]
            error = getattr(errors, name)(*given)
            for attribute, thing in zip(attributes, given):
                self.assertIs(getattr(error, attribute), thing, (name, attribute))

    def test_attributes_are_the_parameters_by_keyword(self):
        for name, attributes in ERRORS.items():
            if attributes:
                given = {attribute: (attribute, 7) for attribute in attributes}
                error = getattr(errors, name)(**given)
                for attribute in attributes:
                    self.assertIs(getattr(error, attribute), given[attribute], (name, attribute))

    def test_parameters_are_no_more_and_no_fewer(self):
        for name, attributes in ERRORS.items():
            if attributes:
                with self.assertRaises(TypeError):
                    getattr(errors, name)(*[0] * (len(attributes) - 1))
                with self.assertRaises(TypeError):
                    getattr(errors, name)(*[0] * (len(attributes) + 1))

    def test_each_is_caught_as_fetch_error_and_value_error(self):
        for name, attributes in ERRORS.items():
            for family in (errors.FetchError, ValueError):
                with self.assertRaises(family):
                    raise getattr(errors, name)(*attributes)


if __name__ == "__main__":
    unittest.main()
