"""Point 6: Words and Full."""

import itertools
import unittest

from helper import too_many
from tworeadings.answers import Full, Words

LETTERS = "abcdefghijklmnopqrstuvwxyz"


def words_by_the_words_of_the_point(words, letters, lengths):
    if len(words) != len(lengths):
        return False
    for word, length in zip(words, lengths):
        if len(word) != length or any([sign not in LETTERS[:letters] for sign in word]):
            return False
    pairs = itertools.permutations(words, 2)
    return not any([other.startswith(one) for one, other in pairs])


class WordsTest(unittest.TestCase):
    def test_words_of_the_lengths(self):
        self.assertIs(Words(["a", "ba", "bb"]).shows(2, [1, 2, 2]), True)
        self.assertIs(Words(["ba", "a", "bb"]).shows(2, [2, 1, 2]), True)
        self.assertIs(Words(["c"]).shows(3, [1]), True)

    def test_no_lengths(self):
        self.assertIs(Words([]).shows(1, []), True)
        self.assertIs(Words([]).shows(26, []), True)
        self.assertIs(Words(["a"]).shows(2, []), False)
        self.assertIs(Words([]).shows(2, [1]), False)

    def test_a_letter_beyond_the_count(self):
        self.assertIs(Words(["c"]).shows(2, [1]), False)
        self.assertIs(Words(["ac"]).shows(2, [2]), False)
        self.assertIs(Words(["b"]).shows(1, [1]), False)
        self.assertIs(Words(["z"]).shows(25, [1]), False)
        self.assertIs(Words(["z"]).shows(26, [1]), True)

    def test_signs_that_are_no_letters(self):
        for wrong in ("A", "{", "`", " ", "1", "\n"):
            with self.subTest(wrong=wrong):
                self.assertIs(Words([wrong]).shows(26, [1]), False)
                self.assertIs(Words(["a" + wrong]).shows(26, [2]), False)

    def test_lengths_that_differ(self):
        self.assertIs(Words(["a", "ba"]).shows(2, [2, 1]), False)
        self.assertIs(Words(["a", "ba"]).shows(2, [1, 3]), False)
        self.assertIs(Words(["a", "ba"]).shows(2, [1]), False)
        self.assertIs(Words(["a"]).shows(2, [1, 2]), False)

    def test_a_word_that_begins_another(self):
        self.assertIs(Words(["a", "ab"]).shows(2, [1, 2]), False)
        self.assertIs(Words(["ab", "a"]).shows(2, [2, 1]), False)
        self.assertIs(Words(["a", "b", "ca", "bc"]).shows(3, [1, 1, 2, 2]), False)
        self.assertIs(Words(["a", "b", "a"]).shows(2, [1, 1, 1]), False)

    def test_one_letter(self):
        self.assertIs(Words(["aaa"]).shows(1, [3]), True)
        self.assertIs(Words(["a", "aa"]).shows(1, [1, 2]), False)

    def test_all_letters(self):
        self.assertIs(Words(list(LETTERS)).shows(26, [1] * 26), True)
        self.assertIs(Words(list(LETTERS)).shows(25, [1] * 26), False)
        self.assertIs(Words(list(LETTERS) + ["a"]).shows(26, [1] * 27), False)

    def test_lengths_above_100(self):
        self.assertIs(Words(["a" * 100, "b" * 101]).shows(2, [100, 101]), True)
        self.assertIs(Words(["a" * 500, "b" * 1000]).shows(2, [500, 1000]), True)
        self.assertIs(Words(["a" * 500, "a" * 1000]).shows(2, [500, 1000]), False)

    def test_by_the_fields_as_they_stand(self):
        words = Words(["a"])
        words.words.append("ba")
        self.assertIs(words.shows(2, [1, 2]), True)
        self.assertIs(words.shows(2, [1]), False)
        words.words[1] = "ab"
        self.assertIs(words.shows(2, [1, 2]), False)
        words.words = "a"
        self.assertIs(words.shows(2, [1]), False)

    def test_asked_twice_and_of_several_in_turn(self):
        words = Words(["a", "ba"])
        for turn in range(2):
            self.assertIs(words.shows(2, [1, 2]), True)
            self.assertIs(words.shows(1, [1, 2]), False)
            self.assertIs(words.shows(3, [1, 2]), True)
            self.assertIs(words.shows(2, [2, 1]), False)

    def test_what_is_handed_in_stays(self):
        lengths = [2, 1]
        words = Words(["ba", "a"])
        words.shows(2, lengths)
        Full().shows(2, lengths)
        self.assertEqual((lengths, words.words), ([2, 1], ["ba", "a"]))

    def test_all_small_ones(self):
        texts = ["".join(signs) for size in range(1, 3) for signs in itertools.product("abc", repeat=size)]
        for size in range(3):
            for words in itertools.product(texts, repeat=size):
                for lengths in itertools.product([1, 2], repeat=size):
                    for letters in (1, 2, 3):
                        expected = words_by_the_words_of_the_point(words, letters, lengths)
                        shown = Words(list(words)).shows(letters, list(lengths))
                        self.assertIs(shown, expected, (words, letters, lengths))


class FullTest(unittest.TestCase):
    def test_more_than_there_are(self):
        self.assertIs(Full().shows(2, [1, 1, 1]), True)
        self.assertIs(Full().shows(2, [1, 1, 2]), True)
        self.assertIs(Full().shows(2, [2, 1, 1]), True)
        self.assertIs(Full().shows(2, [1, 2, 3, 4, 4, 4]), True)

    def test_just_as_many_as_there_are(self):
        self.assertIs(Full().shows(2, [1, 1]), False)
        self.assertIs(Full().shows(2, [1, 2, 3, 4, 4]), False)
        self.assertIs(Full().shows(3, [1, 1, 2, 2, 2]), False)
        self.assertIs(Full().shows(3, [1, 1, 2, 2, 2, 2]), True)

    def test_no_lengths(self):
        for letters in (1, 2, 26):
            self.assertIs(Full().shows(letters, []), False)

    def test_one_letter(self):
        self.assertIs(Full().shows(1, [1]), False)
        self.assertIs(Full().shows(1, [100]), False)
        self.assertIs(Full().shows(1, [1, 2]), True)
        self.assertIs(Full().shows(1, [100, 3]), True)

    def test_all_letters(self):
        self.assertIs(Full().shows(26, [1] * 26), False)
        self.assertIs(Full().shows(26, [1] * 27), True)
        self.assertIs(Full().shows(26, [1] * 26 + [100]), True)
        self.assertIs(Full().shows(26, [1] * 25 + [2] * 26), False)
        self.assertIs(Full().shows(26, [1] * 25 + [2] * 27), True)

    def test_lengths_above_100(self):
        ladder = list(range(1, 201))
        self.assertIs(Full().shows(2, ladder), False)
        self.assertIs(Full().shows(2, ladder + [200]), False)
        self.assertIs(Full().shows(2, ladder + [200, 200]), True)
        self.assertIs(Full().shows(2, [1, 1, 101]), True)
        self.assertIs(Full().shows(1, [150]), False)
        self.assertIs(Full().shows(1, [150, 151]), True)

    def test_great_lengths_take_no_long_time(self):
        far = 10 ** 12
        self.assertIs(Full().shows(2, [far] * 50), False)
        self.assertIs(Full().shows(2, [1, 1, far]), True)
        self.assertIs(Full().shows(1, [far, far + 1]), True)
        self.assertIs(Full().shows(1, [far]), False)

    def test_asked_twice_and_of_several_in_turn(self):
        full = Full()
        for turn in range(2):
            self.assertIs(full.shows(2, [1, 1, 1]), True)
            self.assertIs(full.shows(3, [1, 1, 1]), False)
            self.assertIs(full.shows(1, []), False)

    def test_all_small_ones(self):
        for letters in (1, 2, 3, 4):
            for size in range(7):
                for lengths in itertools.combinations_with_replacement(range(1, 5), size):
                    for turned in (list(lengths), list(reversed(lengths))):
                        expected = too_many(letters, turned)
                        self.assertIs(Full().shows(letters, turned), expected, (letters, turned))

    def test_longer_ones_by_the_words_of_the_point(self):
        for letters in (2, 3, 26):
            for step in (1, 2, 3, 7):
                lengths = [1 + count // letters for count in range(0, 60 * letters, step)]
                for count in range(0, len(lengths), 5):
                    expected = too_many(letters, lengths[:count])
                    self.assertIs(Full().shows(letters, lengths[:count]), expected)

    def test_never_both_and_one_of_them(self):
        for letters in (1, 2):
            texts = {size: ["".join(s) for s in itertools.product(LETTERS[:letters], repeat=size)] for size in (1, 2, 3)}
            for size in range(4):
                for lengths in itertools.product([1, 2, 3], repeat=size):
                    choices = itertools.product(*[texts[length] for length in lengths])
                    found = any([Words(list(words)).shows(letters, list(lengths)) for words in choices])
                    self.assertIs(Full().shows(letters, list(lengths)), not found, (letters, lengths))


if __name__ == "__main__":
    unittest.main()
