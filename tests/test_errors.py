"""The interface: the error classes and what each stands straight under."""

import unittest

from tworeadings import errors


class ErrorsTest(unittest.TestCase):
    def test_word_error_is_straight_under_value_error(self):
        self.assertEqual(errors.WordError.__bases__, (ValueError,))

    def test_each_refusal_is_straight_under_word_error(self):
        for name in ("BadCode", "BadText", "NoReading", "BadNumber", "BadPlaces", "BadLengths"):
            with self.subTest(name=name):
                self.assertEqual(getattr(errors, name).__bases__, (errors.WordError,))
                self.assertEqual(getattr(errors, name).__name__, name)

    def test_each_can_be_raised_with_words(self):
        for name in ("WordError", "BadCode", "BadText", "NoReading", "BadNumber", "BadPlaces", "BadLengths"):
            with self.subTest(name=name), self.assertRaises(errors.WordError):
                raise getattr(errors, name)("why")


if __name__ == "__main__":
    unittest.main()
