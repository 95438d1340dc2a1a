"""Point 5: begins tells a Begins exactly where a word begins that of another place, else an Apart."""

import itertools
import random
import unittest

from tworeadings.answers import Apart, Begins
from tworeadings.telling import begins


class BeginsTellingTest(unittest.TestCase):
    def assert_told(self, code):
        pairs = list(itertools.permutations(range(len(code)), 2))
        answer = begins(code)
        self.assertIs(answer.shows(code), True, code)
        if any(code[other].startswith(code[one]) for one, other in pairs):
            self.assertIs(answer.__class__, Begins, code)
            self.assertNotEqual(answer.one, answer.other, code)
            self.assertTrue(code[answer.other].startswith(code[answer.one]), code)
        else:
            self.assertIs(answer.__class__, Apart, code)
            self.assertEqual(sorted(answer.order), list(range(len(code))), code)
            self.assertEqual([code[place] for place in answer.order], sorted(code), code)

    def test_ordinary_ones(self):
        found = begins(["abc", "x", "ab"])
        self.assertEqual((found.one, found.other), (2, 0))
        found = begins(["ab", "x", "abc"])
        self.assertEqual((found.one, found.other), (0, 2))
        self.assertEqual(begins(["c", "b", "a"]).order, [2, 1, 0])
        self.assertEqual(begins(["ba", "bb", "a"]).order, [2, 0, 1])

    def test_no_words_and_one_word(self):
        self.assertEqual(begins([]).order, [])
        self.assertIs(begins([]).shows([]), True)
        self.assertEqual(begins(["z"]).order, [0])
        self.assertIs(begins(["z"]).shows(["z"]), True)

    def test_equal_words(self):
        found = begins(["ab", "ab"])
        self.assertEqual(sorted([found.one, found.other]), [0, 1])
        self.assert_told(["ab", "ab"])
        self.assert_told(["b", "a", "c", "b"])
        self.assert_told(["a"] * 100)

    def test_a_word_with_others_between(self):
        self.assert_told(["a", "aba", "ab", "ac", "b"])
        self.assert_told(["b", "ac", "aba", "a"])
        self.assert_told(["aa", "ab", "ac", "ad", "aca"])

    def test_words_that_end_or_hold_others(self):
        self.assert_told(["b", "ab"])
        self.assert_told(["b", "abc"])
        self.assertIs(begins(["b", "ab", "aab"]).__class__, Apart)

    def test_all_small_codes(self):
        words = ["a", "b", "ab", "ba", "bb", "aab", "abb"]
        for size in range(5):
            for code in itertools.product(words, repeat=size):
                self.assert_told(list(code))

    def test_larger_codes(self):
        chance = random.Random(3)
        for turn in range(300):
            letters = "abcdefgh"[:chance.randint(2, 8)]
            sizes = [chance.randint(2, 8) for word in range(chance.randint(1, 12))]
            self.assert_told(["".join(chance.choice(letters) for sign in range(size)) for size in sizes])

    def test_many_words(self):
        apart = ["a" * count + "b" for count in range(1000)]
        self.assertEqual(begins(apart).order, list(range(999, -1, -1)))
        self.assertIs(begins(apart).shows(apart), True)
        found = begins(apart + ["a" * 500])
        self.assertEqual(found.one, 1000)
        self.assertIs(found.shows(apart + ["a" * 500]), True)


if __name__ == "__main__":
    unittest.main()
