"""Point 1: codes, readings and their texts, and the refusals of text_of."""

import unittest

from helper import NO_LISTS, NO_PLACES, NO_WORDS
from tworeadings.codes import text_of
from tworeadings.errors import BadCode, BadPlaces


class TextOfTest(unittest.TestCase):
    def test_ordinary_readings(self):
        code = ["ab", "c", "abc"]
        self.assertEqual(text_of(code, [0, 1]), "abc")
        self.assertEqual(text_of(code, [2]), "abc")
        self.assertEqual(text_of(code, [1, 0, 2]), "cababc")
        self.assertEqual(text_of(code, [1, 1, 1]), "ccc")

    def test_every_letter_is_one(self):
        letters = "abcdefghijklmnopqrstuvwxyz"
        self.assertEqual(text_of(list(letters), list(range(26))), letters)
        self.assertEqual(text_of([letters], [0, 0]), letters + letters)

    def test_empty_code_and_empty_reading(self):
        self.assertEqual(text_of([], []), "")
        self.assertEqual(text_of(["a"], []), "")

    def test_same_word_several_times(self):
        self.assertEqual(text_of(["a", "a", "a"], [2, 0, 1, 2]), "aaaa")

    def test_first_and_last_place(self):
        self.assertEqual(text_of(["x", "y", "z"], [0]), "x")
        self.assertEqual(text_of(["x", "y", "z"], [2]), "z")

    def test_many_words(self):
        code = ["a" * count for count in range(1, 201)]
        self.assertEqual(text_of(code, list(range(200))), "a" * (200 * 201 // 2))

    def test_what_is_handed_in_stays_and_is_not_kept(self):
        code = ["ab", "c"]
        places = [1, 0]
        self.assertEqual(text_of(code, places), "cab")
        self.assertEqual((code, places), (["ab", "c"], [1, 0]))
        code[0] = "x"
        places.append(1)
        self.assertEqual(text_of(code, places), "cxc")

    def test_no_list_is_no_code(self):
        for wrong in NO_LISTS:
            with self.subTest(wrong=wrong), self.assertRaises(BadCode):
                text_of(wrong, [])

    def test_no_word_in_a_code(self):
        for wrong in NO_WORDS:
            for code in ([wrong], ["a", wrong], [wrong, "a"], ["a", wrong, "b"]):
                with self.subTest(code=code), self.assertRaises(BadCode):
                    text_of(code, [])

    def test_no_list_is_no_reading(self):
        for wrong in NO_LISTS:
            with self.subTest(wrong=wrong), self.assertRaises(BadPlaces):
                text_of(["a", "b"], wrong)

    def test_no_place_in_a_reading(self):
        for wrong in NO_PLACES:
            for places in ([wrong], [0, wrong], [wrong, 1], [0, wrong, 1]):
                with self.subTest(places=places), self.assertRaises(BadPlaces):
                    text_of(["a", "b"], places)

    def test_the_empty_code_has_no_place(self):
        for place in (0, -1, 1, False):
            with self.subTest(place=place), self.assertRaises(BadPlaces):
                text_of([], [place])

    def test_code_is_refused_ahead_of_places(self):
        for code in (None, [""], ["A"], "a", [1]):
            for places in (None, [-1], [5], [True], "0"):
                with self.subTest(code=code, places=places), self.assertRaises(BadCode):
                    text_of(code, places)

    def test_what_is_refused_stays_as_it_was(self):
        code = ["a", ""]
        with self.assertRaises(BadCode):
            text_of(code, [0])
        places = [0, 5]
        with self.assertRaises(BadPlaces):
            text_of(["a"], places)
        self.assertEqual((code, places), (["a", ""], [0, 5]))

    def test_a_list_that_holds_itself(self):
        ring = []
        ring.append(ring)
        with self.assertRaises(BadCode):
            text_of(ring, [])
        with self.assertRaises(BadPlaces):
            text_of(["a"], ring)


if __name__ == "__main__":
    unittest.main()
