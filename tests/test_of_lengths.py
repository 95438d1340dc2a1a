"""Point 6: of_lengths tells Words just where there are such words, else a Full."""

import itertools
import random
import unittest

from helper import NO_LISTS, NO_NUMBERS, refusal, ring, too_many
from tworeadings.answers import Full, Words
from tworeadings.errors import BadLengths
from tworeadings.lengths import of_lengths

LETTERS = "abcdefghijklmnopqrstuvwxyz"


def any_begun(words):
    return any(other.startswith(one) for one, other in zip(sorted(words), sorted(words)[1:]))


class OfLengthsTest(unittest.TestCase):
    def assert_told(self, letters, lengths):
        answer = of_lengths(letters, lengths)
        self.assertIs(answer.shows(letters, lengths), True, (letters, lengths))
        if too_many(letters, lengths):
            self.assertIs(answer.__class__, Full, (letters, lengths))
        else:
            self.assertIs(answer.__class__, Words, (letters, lengths))
            self.assertEqual([len(word) for word in answer.words], lengths)
            self.assertLessEqual(set("".join(answer.words)), set(LETTERS[:letters]))
            self.assertFalse(any_begun(answer.words), (letters, lengths))
        return answer

    def test_ordinary_ones(self):
        self.assertEqual(self.assert_told(2, [1, 2, 2]).words, ["a", "ba", "bb"])
        self.assertEqual(self.assert_told(2, [2, 1, 2]).words, ["ba", "a", "bb"])
        self.assertEqual(self.assert_told(3, [1, 1, 1]).words, ["a", "b", "c"])
        self.assertIs(self.assert_told(2, [1, 1, 2]).__class__, Full)
        self.assertIs(self.assert_told(2, [2, 1, 2, 2]).__class__, Full)

    def test_no_lengths(self):
        for letters in range(1, 27):
            self.assertEqual(self.assert_told(letters, []).words, [])

    def test_one_letter(self):
        for length in (1, 2, 99, 100):
            self.assertEqual(self.assert_told(1, [length]).words, ["a" * length])
        for lengths in ([1, 1], [1, 2], [2, 1], [100, 100], [100, 1], [3, 3, 3]):
            self.assertIs(self.assert_told(1, lengths).__class__, Full)

    def test_all_letters(self):
        self.assertEqual(sorted(self.assert_told(26, [1] * 26).words), list(LETTERS))
        self.assertIs(self.assert_told(26, [1] * 27).__class__, Full)
        self.assertIs(self.assert_told(26, [1] * 26 + [100]).__class__, Full)
        self.assertIs(self.assert_told(26, [1] * 25 + [2] * 26).__class__, Words)
        self.assertIs(self.assert_told(26, [1] * 25 + [2] * 27).__class__, Full)
        self.assertIs(self.assert_told(25, [1] * 26).__class__, Full)

    def test_lengths_of_100(self):
        for letters in (2, 3, 26):
            self.assertIs(self.assert_told(letters, [100] * 300).__class__, Words)
            self.assertIs(self.assert_told(letters, [1] * (letters - 1) + [100] * 300).__class__, Words)
            self.assertIs(self.assert_told(letters, [1] * letters + [100]).__class__, Full)
        ladder = list(range(1, 101))
        self.assertIs(self.assert_told(2, ladder).__class__, Words)
        self.assertIs(self.assert_told(2, ladder + [100]).__class__, Words)
        self.assertIs(self.assert_told(2, ladder + [100, 100]).__class__, Full)
        self.assertIs(self.assert_told(2, list(reversed(ladder)) + [100]).__class__, Words)
        self.assertIs(self.assert_told(2, [100, 100] + list(reversed(ladder))).__class__, Full)

    def test_just_as_many_as_there_are(self):
        for letters in (2, 3, 5):
            for length in (1, 2, 3, 4):
                self.assertIs(self.assert_told(letters, [length] * letters ** length).__class__, Words)
                self.assertIs(self.assert_told(letters, [length] * letters ** length + [9]).__class__, Full)
                self.assertIs(self.assert_told(letters, [9] + [length] * letters ** length).__class__, Full)

    def test_many_lengths(self):
        self.assertIs(self.assert_told(2, [12] * 4096).__class__, Words)
        self.assertIs(self.assert_told(2, [12] * 4097).__class__, Full)
        self.assertIs(self.assert_told(26, [3] * 17576).__class__, Words)
        self.assertIs(self.assert_told(26, [3] * 17577).__class__, Full)
        self.assertIs(self.assert_told(7, [5, 6, 7] * 4000).__class__, Words)

    def test_all_small_ones_in_any_order(self):
        for letters in (1, 2, 3):
            for size in range(5):
                for lengths in itertools.product(range(1, 5), repeat=size):
                    self.assert_told(letters, list(lengths))
            for lengths in itertools.combinations_with_replacement(range(1, 4), 8):
                self.assert_told(letters, list(lengths))
                self.assert_told(letters, list(reversed(lengths)))

    def test_larger_ones(self):
        chance = random.Random(6)
        seen = []
        for turn in range(400):
            letters = chance.randint(2, 5)
            lengths = [chance.randint(1, 12) for word in range(chance.randint(1, 40))]
            if turn % 2 == 0:
                lengths = [length + 1 for length in lengths]
            seen.append(self.assert_told(letters, lengths).__class__.__name__)
        self.assertGreater(min(seen.count("Full"), seen.count("Words")), 50)

    def test_no_such_count(self):
        for letters in NO_NUMBERS + (0, -1, 27, 28, -26, 10 ** 5000, -(10 ** 5000), NO_LISTS, "ab", range(2)):
            for lengths in ([], [1], [1, 2], None, [0]):
                self.assertIs(refusal(of_lengths, letters, lengths), BadLengths, repr(letters.__class__))

    def test_no_lengths_at_all(self):
        for lengths in NO_LISTS + (ring(),):
            self.assertIs(refusal(of_lengths, 2, lengths), BadLengths)

    def test_a_length_that_is_none(self):
        for wrong in NO_NUMBERS + (0, -1, 101, 102, 1000, 10 ** 5000, -(10 ** 5000)):
            for lengths in ([wrong], [1, wrong], [wrong, 2], [3, wrong, 3], [1, 1, 1, 1, wrong]):
                self.assertIs(refusal(of_lengths, 2, lengths), BadLengths, repr(wrong.__class__))

    def test_the_edges_are_taken(self):
        for letters in (1, 2, 25, 26):
            for length in (1, 2, 99, 100):
                self.assertIs(self.assert_told(letters, [length]).__class__, Words)


if __name__ == "__main__":
    unittest.main()
