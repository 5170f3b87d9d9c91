"""Tests of point 1.1."""

import unittest

from digitwise.errors import Clashing, Malformed, Misused, Oversized, Refused, Unknown

FIELDS = [
    (Malformed, "at", 7),
    (Unknown, "name", "x"),
    (Clashing, "name", "T"),
    (Oversized, "limit", "text"),
    (Misused, "why", "width"),
]


class Errors(unittest.TestCase):
    def test_refused_is_a_direct_subclass_of_value_error(self):
        self.assertEqual(Refused.__bases__, (ValueError,))

    def test_the_others_are_direct_subclasses_of_refused(self):
        for error, _, _ in FIELDS:
            with self.subTest(error=error.__name__):
                self.assertEqual(error.__bases__, (Refused,))

    def test_the_one_field_is_set_from_the_only_argument(self):
        for error, field, given in FIELDS:
            with self.subTest(error=error.__name__):
                self.assertEqual(vars(error(given)), {field: given})

    def test_the_argument_has_the_name_of_the_field(self):
        for error, field, given in FIELDS:
            with self.subTest(error=error.__name__):
                self.assertEqual(getattr(error(**{field: given}), field), given)

    def test_there_is_exactly_one_argument(self):
        for error, _, given in FIELDS:
            with self.subTest(error=error.__name__):
                self.assertRaises(TypeError, error)
                self.assertRaises(TypeError, error, given, given)

    def test_they_are_raised_and_caught_as_refused(self):
        for error, field, given in FIELDS:
            with self.subTest(error=error.__name__):
                with self.assertRaises(Refused) as caught:
                    raise error(given)
                self.assertIs(type(caught.exception), error)
                self.assertEqual(getattr(caught.exception, field), given)


if __name__ == "__main__":
    unittest.main()
