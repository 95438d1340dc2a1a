"""Point 3: read tells a Reading exactly where there is one, else a Stuck; how_many tells how many there are."""

import itertools
import random
import unittest

from helper import all_readings
from tworeadings.answers import Reading, Stuck
from tworeadings.codes import text_of
from tworeadings.reading import how_many, read


def ways_by_adding(sizes, count):
    """How many readings a text of one letter alone has, by the words' lengths."""
    ways = [1]
    for size in range(1, count + 1):
        ways.append(sum(ways[size - each] for each in sizes if each <= size))
    return ways[count]


class ReadTest(unittest.TestCase):
    def assert_told(self, code, text, count):
        self.assertEqual(how_many(code, text), count, (code, text))
        self.assertIs(how_many(code, text).__class__, int)
        answer = read(code, text)
        self.assertIs(answer.shows(code, text), True, (code, text))
        if count > 0:
            self.assertIs(answer.__class__, Reading, (code, text))
            self.assertEqual(text_of(code, answer.places), text)
        else:
            self.assertIs(answer.__class__, Stuck, (code, text))
            self.assertIn(0, answer.marks)
            self.assertNotIn(len(text), answer.marks)
            self.assertEqual(answer.marks, sorted(set(answer.marks)))

    def test_ordinary_ones(self):
        code = ["ab", "c", "abc"]
        self.assert_told(code, "abc", 2)
        self.assert_told(code, "abcabc", 4)
        self.assert_told(code, "cab", 1)
        self.assert_told(code, "cabx", 0)
        self.assert_told(code, "bc", 0)
        self.assertEqual(read(code, "cab").places, [1, 0])
        self.assertEqual(read(code, "ccabb").marks, [0, 1, 2, 4])

    def test_the_empty_text(self):
        for code in ([], ["a"], ["a", "a"], ["ab", "b"]):
            self.assert_told(code, "", 1)
            self.assertEqual(read(code, "").places, [])

    def test_no_words(self):
        self.assert_told([], "a", 0)
        self.assert_told([], "abcabc", 0)
        self.assertEqual(read([], "abc").marks, [0])

    def test_a_way_that_is_not_the_first_or_the_longest(self):
        self.assert_told(["a", "ab", "bc"], "abc", 1)
        self.assert_told(["ab", "a", "bc"], "abc", 1)
        self.assert_told(["aa", "aaa"], "a" * 7, 3)
        self.assert_told(["aaa", "aa"], "a" * 4, 1)
        self.assert_told(["a", "aa", "b" * 9], "aaab", 0)

    def test_a_word_longer_than_the_text(self):
        self.assert_told(["abc"], "ab", 0)
        self.assert_told(["ab", "abc", "cd"], "abc", 1)
        self.assert_told(["a", "abb", "bbb"], "abb", 1)

    def test_same_word_at_several_places(self):
        self.assert_told(["a", "a"], "aaa", 8)
        self.assert_told(["a", "b", "a", "a"], "aba", 9)
        self.assert_told(["ab", "a", "b", "ab"], "abab", 9)
        self.assert_told(["a"] * 10, "a" * 50, 10 ** 50)

    def test_all_small_ones(self):
        words = ["a", "b", "ab", "ba", "aab"]
        texts = ["".join(signs) for size in range(7) for signs in itertools.product("ab", repeat=size)]
        for size in range(4):
            for code in itertools.combinations_with_replacement(words, size):
                for text in texts:
                    self.assert_told(list(code), text, len(all_readings(code, text)))

    def test_larger_ones(self):
        chance = random.Random(2)
        stuck = 0
        for turn in range(400):
            letters = "abc"[:chance.randint(1, 3)]
            sizes = [chance.randint(1, 5) for word in range(chance.randint(1, 6))]
            code = ["".join(chance.choice(letters) for sign in range(size)) for size in sizes]
            text = "".join(chance.choice(code) for word in range(chance.randint(0, 5)))
            if turn % 3 == 0:
                text = text + chance.choice(letters)
            count = len(all_readings(code, text))
            self.assert_told(code, text, count)
            stuck += count == 0
        self.assertGreater(stuck, 20)

    def test_very_many_readings(self):
        self.assert_told(["a", "aa"], "a" * 1000, ways_by_adding([1, 2], 1000))
        self.assert_told(["a", "aa", "aaa", "a"], "a" * 3000, ways_by_adding([1, 2, 3, 1], 3000))
        self.assert_told(["a" * 7, "a" * 11], "a" * 5000, ways_by_adding([7, 11], 5000))
        self.assert_told(["a"] * 26, "a" * 2000, 26 ** 2000)
        self.assert_told(["a", "b", "a", "b"], "ab" * 10000, 2 ** 20000)

    def test_very_many_readings_that_end_nowhere(self):
        self.assert_told(["a", "aa", "aaa"], "a" * 3000 + "b", 0)
        self.assert_told(["a", "aa", "aaa"], "b" + "a" * 3000, 0)
        self.assert_told(["aa", "aaaa", "aaaaaa"], "a" * 3001, 0)

    def test_a_long_text(self):
        self.assert_told(["ab", "cd", "abc"], "abcd" * 25000, 1)
        self.assert_told(["a"], "a" * 100000, 1)
        self.assert_told(["b" + "a" * 50000, "b", "a"], "b" + "a" * 50000, 2)

    def test_every_letter_is_one(self):
        letters = "abcdefghijklmnopqrstuvwxyz"
        self.assert_told(list(letters), letters, 1)
        self.assert_told([letters, "z"], letters + "z" + letters, 1)


if __name__ == "__main__":
    unittest.main()
