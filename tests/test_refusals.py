"""The refusals of telling and reading, each by its own class, and which comes first."""

import unittest

from helper import NO_LISTS, NO_PLACES, NO_TEXTS, no_codes, refusal, ring
from tworeadings import errors
from tworeadings.errors import BadCode, BadNumber, BadPlaces, BadText, NoReading
from tworeadings.reading import how_many, number_of, read, told
from tworeadings.telling import begins, once


class RefusalsTest(unittest.TestCase):
    def test_no_code(self):
        for number, code in enumerate(no_codes()):
            with self.subTest(number=number):
                self.assertIs(refusal(once, code), BadCode)
                self.assertIs(refusal(begins, code), BadCode)
                self.assertIs(refusal(read, code, "a"), BadCode)
                self.assertIs(refusal(how_many, code, "a"), BadCode)
                self.assertIs(refusal(told, code, "a", 0), BadCode)
                self.assertIs(refusal(number_of, code, "a", [0]), BadCode)

    def test_no_text(self):
        for number, text in enumerate(NO_TEXTS + (ring(),)):
            for code in (["a"], [], ["ab", "a"]):
                with self.subTest(number=number, code=code):
                    self.assertIs(refusal(read, code, text), BadText)
                    self.assertIs(refusal(how_many, code, text), BadText)
                    self.assertIs(refusal(told, code, text, 0), BadText)
                    self.assertIs(refusal(number_of, code, text, [0]), BadText)

    def test_no_places(self):
        for number, places in enumerate(NO_LISTS + (ring(),)):
            with self.subTest(number=number):
                self.assertIs(refusal(number_of, ["a", "b"], "ab", places), BadPlaces)
                self.assertIs(refusal(number_of, ["a", "b"], "", places), BadPlaces)
        for number, wrong in enumerate(NO_PLACES):
            for places in ([wrong], [0, wrong], [wrong, 1], [0, 1, wrong]):
                with self.subTest(number=number, places=places):
                    self.assertIs(refusal(number_of, ["a", "b"], "ab", places), BadPlaces)

    def test_what_is_one_is_not_refused(self):
        for code in ([], ["a"], ["a", "a"], ["zz", "z"]):
            self.assertIsNone(refusal(once, code))
            self.assertIsNone(refusal(begins, code))
            for text in ("", "a", "zzz"):
                self.assertIsNone(refusal(read, code, text))
                self.assertIsNone(refusal(how_many, code, text))
            self.assertIsNone(refusal(told, code, "", 0))
            self.assertIsNone(refusal(number_of, code, "", []))

    def test_code_ahead_of_text(self):
        for code in (None, [""], ["A"], "a", [1], True, {}):
            for text in (None, "A", 1, ["a"], True, "b"):
                self.assertIs(refusal(read, code, text), BadCode)
                self.assertIs(refusal(how_many, code, text), BadCode)
                self.assertIs(refusal(told, code, text, None), BadCode)
                self.assertIs(refusal(number_of, code, text, None), BadCode)

    def test_text_ahead_of_no_reading_and_of_the_rest(self):
        for text in (None, "B", "b1", 1, ["b"], True):
            for last in (None, -1, 0, True, "0", [], [0], [9]):
                self.assertIs(refusal(told, ["a"], text, last), BadText)
                self.assertIs(refusal(number_of, ["a"], text, last), BadText)

    def test_no_reading_ahead_of_number_and_places(self):
        for last in (None, -1, 0, True, "0", [], [0], [9], {}, 10 ** 30):
            for code in (["a"], []):
                self.assertIs(refusal(told, code, "b", last), NoReading)
                self.assertIs(refusal(number_of, code, "b", last), NoReading)

    def test_number_and_places_at_last(self):
        for last in (None, -1, 1, True, False, "0", [], [0, 0], [9], {}, 10 ** 30):
            self.assertIs(refusal(told, ["a"], "a", last), BadNumber)
            self.assertIs(refusal(number_of, ["a"], "a", last), BadPlaces)

    def test_each_refusal_stands_straight_under_word_error(self):
        for wrong in (BadCode, BadNumber, BadPlaces, BadText, NoReading, errors.BadLengths):
            self.assertEqual(wrong.__bases__, (errors.WordError,))
            self.assertEqual(wrong.__module__, "tworeadings.errors")


if __name__ == "__main__":
    unittest.main()
