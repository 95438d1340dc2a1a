"""Point 2: once tells a Clash exactly where some text has two readings, else a Tails."""

import itertools
import random
import unittest

from helper import are_tails_of, two_readings, words_up_to
from tworeadings.answers import Clash, Tails
from tworeadings.codes import text_of
from tworeadings.telling import once


class OnceTest(unittest.TestCase):
    def assert_clash(self, code):
        answer = once(code)
        self.assertIs(answer.__class__, Clash, code)
        self.assertIs(answer.shows(code), True, code)
        self.assertNotEqual(answer.one, answer.other, code)
        self.assertEqual(text_of(code, answer.one), text_of(code, answer.other), code)

    def assert_tails(self, code):
        answer = once(code)
        self.assertIs(answer.__class__, Tails, code)
        self.assertIs(answer.shows(code), True, code)
        self.assertNotIn("", answer.tails, code)
        self.assertEqual(len(set(answer.tails)), len(answer.tails), code)
        self.assertTrue(are_tails_of(code, answer.tails), code)
        return answer.tails

    def assert_told(self, code):
        if two_readings(code):
            self.assert_clash(code)
        else:
            self.assert_tails(code)

    def test_ordinary_clashes(self):
        self.assert_clash(["ab", "c", "abc"])
        self.assert_clash(["a", "ab", "ba"])
        self.assert_clash(["a", "ab", "bc", "c"])
        self.assert_clash(["car", "carpet", "pet"])
        self.assert_clash(["a", "aa"])
        self.assert_clash(["aa", "aaa"])
        self.assert_clash(["aab", "a", "baab", "bb", "bba"])

    def test_ordinary_tails(self):
        self.assertEqual(self.assert_tails(["a", "b", "c"]), [])
        self.assertEqual(self.assert_tails(["a", "ab"]), ["b"])
        self.assertEqual(self.assert_tails(["ab", "a"]), ["b"])
        self.assertEqual(sorted(self.assert_tails(["a", "ab", "bcd"])), ["b", "cd"])
        self.assertEqual(sorted(self.assert_tails(["b", "bbcd"])), ["bcd", "cd"])
        self.assertEqual(self.assert_tails(["ab", "abb", "abbb"]), ["b", "bb"])

    def test_no_words_and_one_word(self):
        self.assertEqual(self.assert_tails([]), [])
        for word in ("a", "z", "aa", "abab", "a" * 500):
            self.assertEqual(self.assert_tails([word]), [])

    def test_same_word_several_times(self):
        self.assert_clash(["a", "a"])
        self.assert_clash(["ab", "c", "ab"])
        self.assert_clash(["x", "xy", "q", "q", "q"])
        self.assert_clash(["a", "ab", "b" * 30, "b" * 30])
        self.assert_clash(["z"] * 2000)

    def test_words_in_any_order(self):
        for code in (["ab", "c", "abc", "x"], ["b", "bbcd", "bc", "a"], ["a", "ab", "bb", "q"]):
            for turned in itertools.permutations(code):
                self.assert_told(list(turned))

    def test_one_letter_ahead_of_many_like_ones(self):
        for count in range(1, 40):
            self.assert_clash(["b", "b" + "a" * count, "a"])
            self.assert_told(["b", "b" + "a" * count, "aaa"])
            self.assert_told(["b", "b" + "a" * count, "aaaaa", "aac"])
            self.assert_tails(["a", "a" * count + "b"])
            self.assert_tails(["b", "b" + "a" * count])
            self.assert_tails(["b" + "a" * each for each in range(count)])
            self.assert_tails(["a" * each + "b" for each in range(count)])
            self.assert_told(["ab", "a" * count + "b", "ba", "b" + "a" * count])

    def test_one_letter_ahead_of_very_many_like_ones(self):
        self.assert_clash(["b", "b" + "a" * 30000, "a"])
        self.assert_clash(["b", "b" + "a" * 3000, "aa", "aaaaa"])
        self.assertEqual(len(self.assert_tails(["a", "a" * 1500 + "b"])), 1500)
        self.assertEqual(len(self.assert_tails(["b", "b" + "a" * 1500, "a" * 7])), 1500 // 7 + 2)
        self.assertEqual(len(self.assert_tails(["b" + "a" * count for count in range(200)])), 199)

    def test_a_clash_that_takes_very_many_words(self):
        for count in range(1, 12):
            # Each reading stays ahead for long before the two meet.
            self.assert_told(["a" * count, "a" * (count + 1), "b" + "a" * count])
            self.assert_told(["b", "b" + "a" * count, "a" * (count + 1), "a" * (2 * count + 1) + "b"])
            self.assert_told(["ab", "a" * count + "b" * count, "ba" * count, "b" * count + "a"])

    def test_all_codes_of_two_small_words(self):
        for code in itertools.product(words_up_to("ab", 4), repeat=2):
            self.assert_told(list(code))

    def test_all_codes_of_three_small_words(self):
        for code in itertools.combinations_with_replacement(words_up_to("ab", 3), 3):
            self.assert_told(list(code))
        for code in itertools.product(words_up_to("ab", 2), repeat=3):
            self.assert_told(list(code))

    def test_all_codes_of_four_small_words(self):
        for code in itertools.combinations(words_up_to("ab", 3), 4):
            self.assert_told(list(code))

    def test_small_codes_by_all_their_short_readings(self):
        for code in itertools.combinations(words_up_to("ab", 2) + ["aba", "bab"], 3):
            texts = [text_of(list(code), list(p)) for size in range(6) for p in itertools.product(range(3), repeat=size)]
            if len(set(texts)) < len(texts):
                self.assert_clash(list(code))
            elif isinstance(once(list(code)), Tails):
                self.assert_tails(list(code))

    def test_larger_codes(self):
        chance = random.Random(11)
        seen = []
        for turn in range(600):
            letters = "abcd"[:chance.randint(2, 4)]
            sizes = [chance.randint(1, 9) for word in range(chance.randint(2, 12))]
            code = ["".join(chance.choice(letters) for sign in range(size)) for size in sizes]
            self.assert_told(code)
            seen.append(once(code).__class__.__name__)
        self.assertGreater(min(seen.count("Clash"), seen.count("Tails")), 50)

    def test_codes_with_many_rests(self):
        chance = random.Random(5)
        for turn in range(60):
            size = chance.randint(3, 9)
            text = "".join(chance.choice("ab") for sign in range(40))
            cuts = sorted(chance.sample(range(1, 40), size))
            code = [text[:cut] for cut in cuts] + [text[cut:] + "c" for cut in cuts[:chance.randint(0, size)]]
            self.assert_told(code)

    def test_many_words(self):
        letters = "abcdefghijklmnopqrstuvwxyz"
        apart = [one + other for one in letters for other in letters]
        self.assertEqual(self.assert_tails(apart), [])
        self.assert_clash(apart + ["abcd"])
        # These words are so many that a further one can't but clash.
        self.assert_clash(apart + ["abc"])
        some = [each for each in apart if "z" not in each]
        self.assertEqual(self.assert_tails(some + ["abz"]), ["z"])
        # All these rests are one text, which begins all these words.
        heads = ["x" + each for each in apart]
        self.assertEqual(len(once(heads + [head + "y" for head in heads] + ["yz" + each for each in apart]).tails), 677)


if __name__ == "__main__":
    unittest.main()
