"""Point 4: readings in the order of lists, counted from 0 on."""

import itertools
import random
import unittest

from helper import NO_NUMBERS, all_readings, refusal
from tworeadings.codes import text_of
from tworeadings.errors import BadNumber, BadPlaces, NoReading
from tworeadings.reading import how_many, number_of, told


class ToldTest(unittest.TestCase):
    def assert_all_told(self, code, text):
        readings = all_readings(code, text)
        self.assertEqual([told(code, text, number) for number in range(len(readings))], readings, (code, text))
        numbers = [number_of(code, text, places) for places in readings]
        self.assertEqual(numbers, list(range(len(readings))), (code, text))
        beyond = BadNumber if readings else NoReading
        for number in (-1, len(readings), len(readings) + 1, -len(readings) - 1, 10 ** 30):
            self.assertIs(refusal(told, code, text, number), beyond, (code, text, number))

    def assert_there_and_back(self, code, text, number):
        places = told(code, text, number)
        self.assertIs(places.__class__, list)
        self.assertEqual(text_of(code, places), text)
        self.assertEqual(number_of(code, text, places), number)
        return places

    def test_ordinary_ones(self):
        code = ["ab", "c", "abc"]
        self.assertEqual([told(code, "abcabc", number) for number in range(4)],
                         [[0, 1, 0, 1], [0, 1, 2], [2, 0, 1], [2, 2]])
        self.assertEqual(number_of(code, "abcabc", [2, 0, 1]), 2)
        self.assertEqual(told(["aa", "a"], "aaa", 0), [0, 1])
        self.assertEqual(told(["aa", "a"], "aaa", 1), [1, 0])
        self.assertEqual(told(["aa", "a"], "aaa", 2), [1, 1, 1])

    def test_the_empty_text(self):
        for code in ([], ["a"], ["a", "a"]):
            self.assert_all_told(code, "")
            self.assertEqual(told(code, "", 0), [])
            self.assertEqual(number_of(code, "", []), 0)

    def test_places_are_ordered_as_numbers(self):
        code = ["b"] * 2 + ["a"] * 12
        self.assertEqual([told(code, "a", number) for number in range(12)], [[place] for place in range(2, 14)])

    def test_same_word_at_several_places_with_others_between(self):
        self.assert_all_told(["a", "aa", "a"], "aaaa")
        self.assert_all_told(["aa", "a", "aa", "b", "a"], "aaa")
        self.assert_all_told(["ab", "b", "a", "ab", "a"], "abab")

    def test_all_small_ones(self):
        words = ["a", "b", "ab", "ba", "aab"]
        texts = ["".join(signs) for size in range(5) for signs in itertools.product("ab", repeat=size)]
        for size in range(4):
            for code in itertools.product(words, repeat=size):
                for text in texts[::size * 2 + 1]:
                    self.assert_all_told(list(code), text)

    def test_larger_ones(self):
        chance = random.Random(9)
        for turn in range(150):
            letters = "abc"[:chance.randint(1, 3)]
            sizes = [chance.randint(1, 4) for word in range(chance.randint(1, 6))]
            code = ["".join(chance.choice(letters) for sign in range(size)) for size in sizes]
            text = "".join(chance.choice(code) for word in range(chance.randint(0, 4)))
            self.assert_all_told(code, text)

    def test_great_counts(self):
        chance = random.Random(4)
        codes = (["a", "aa"], ["aaa", "a", "aa", "a"], ["a"] * 30, ["aa", "b"] * 4 + ["a"] * 5, ["a" * 7, "a" * 11])
        for code in codes:
            for size in (100, 700):
                text = "a" * size
                count = how_many(code, text)
                numbers = sorted([0, 1, count // 2, count // 3, count - 2, count - 1])
                numbers = sorted(numbers + [chance.randrange(count) for turn in range(5)])
                readings = [self.assert_there_and_back(code, text, number) for number in numbers]
                self.assertEqual(readings, sorted(readings))
                for number in (-1, count, count + 1):
                    self.assertIs(refusal(told, code, text, number), BadNumber)

    def test_the_first_and_the_last_of_very_many(self):
        text = "a" * 3000
        count = how_many(["a", "aa"], text)
        self.assertEqual(told(["a", "aa"], text, 0), [0] * 3000)
        self.assertEqual(told(["a", "aa"], text, count - 1), [1] * 1500)
        self.assertEqual(number_of(["a", "aa"], text, [1] * 1500), count - 1)
        self.assertEqual(told(["aa", "a"], text, 0), [0] * 1500)
        self.assertEqual(told(["aa", "a"], text, count - 1), [1] * 3000)
        self.assertEqual(told(["aa", "a"], text, 1), [0] * 1499 + [1, 1])

    def test_counts_like_digits(self):
        code = ["a"] * 10
        digits = [int(sign) for sign in "31415926535897932384626433832795028841971693993751"]
        number = int("".join(str(digit) for digit in digits))
        self.assertEqual(told(code, "a" * 50, number), digits)
        self.assertEqual(number_of(code, "a" * 50, digits), number)

    def test_a_word_at_very_many_places(self):
        code = ["a"] * 20000 + ["aa"] * 20000
        count = how_many(code, "a" * 300)
        for number in (0, count // 7, count - 1):
            self.assert_there_and_back(code, "a" * 300, number)

    def test_a_long_text_with_one_reading(self):
        code = ["ab", "cd", "abc"]
        self.assertEqual(self.assert_there_and_back(code, "abcd" * 10000, 0), [0, 1] * 10000)

    def test_there_is_none(self):
        for code, text in (([], "a"), (["a"], "b"), (["aa"], "aaa"), (["a", "ab"], "abb")):
            for number in (0, 1, -1, 10 ** 30) + NO_NUMBERS:
                self.assertIs(refusal(told, code, text, number), NoReading, (code, text, number))
            for places in ([], [0], [-1], [5], [True], None, "0", 0, {}):
                self.assertIs(refusal(number_of, code, text, places), NoReading, (code, text, places))

    def test_no_count_of_one(self):
        for number in NO_NUMBERS + (-1, 2, 3, -2, 10 ** 5000, -(10 ** 5000)):
            self.assertIs(refusal(told, ["ab", "c", "abc"], "abc", number), BadNumber, repr(number.__class__))
        for number in NO_NUMBERS + (-1, 1):
            self.assertIs(refusal(told, [], "", number), BadNumber, number)

    def test_no_reading_of_the_text(self):
        code = ["ab", "c", "abc"]
        for places in ([], [0], [1], [1, 0], [0, 1, 1], [2, 2], [2, 1], [0, 0]):
            self.assertIs(refusal(number_of, code, "abc", places), BadPlaces, places)
        self.assertIs(refusal(number_of, [], "", [0]), BadPlaces)
        self.assertIs(refusal(number_of, ["a"], "", [0]), BadPlaces)
        self.assertIs(refusal(number_of, ["a"], "a", []), BadPlaces)
        # Places from behind would have the same text.
        self.assertIs(refusal(number_of, code, "abc", [-1]), BadPlaces)
        self.assertIs(refusal(number_of, ["a", "b"], "ab", [0, True]), BadPlaces)
        self.assertIs(refusal(number_of, ["a", "b"], "ab", [False, 1]), BadPlaces)
        self.assertIs(refusal(number_of, ["a", "b"], "ab", (0, 1)), BadPlaces)
        self.assertIs(refusal(number_of, ["a", "b"], "ab", [0.0, 1.0]), BadPlaces)


if __name__ == "__main__":
    unittest.main()
