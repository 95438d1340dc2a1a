"""Point 3: Reading and Stuck."""

import itertools
import unittest

from tworeadings.answers import Reading, Stuck


def stuck_by_the_words_of_the_point(code, text, marks):
    if 0 not in marks or len(text) in marks or not all(0 <= mark <= len(text) for mark in marks):
        return False
    for mark in marks:
        for word in code:
            if text[mark:].startswith(word) and mark + len(word) not in marks:
                return False
    return True


class ReadingTest(unittest.TestCase):
    def test_a_reading_of_the_text(self):
        code = ["ab", "c", "abc"]
        self.assertIs(Reading([0, 1]).shows(code, "abc"), True)
        self.assertIs(Reading([2]).shows(code, "abc"), True)
        self.assertIs(Reading([1, 1]).shows(code, "cc"), True)

    def test_a_reading_of_another_text(self):
        code = ["ab", "c", "abc"]
        self.assertIs(Reading([0, 1]).shows(code, "ab"), False)
        self.assertIs(Reading([0, 1]).shows(code, "abcc"), False)
        self.assertIs(Reading([1, 0]).shows(code, "abc"), False)
        self.assertIs(Reading([0]).shows(code, ""), False)

    def test_the_empty_reading_and_the_empty_text(self):
        self.assertIs(Reading([]).shows([], ""), True)
        self.assertIs(Reading([]).shows(["a"], ""), True)
        self.assertIs(Reading([]).shows(["a"], "a"), False)
        self.assertIs(Reading([]).shows([], "a"), False)

    def test_places_that_are_none(self):
        for wrong in (-1, 1, True, False, 10 ** 20):
            with self.subTest(wrong=wrong):
                self.assertIs(Reading([wrong]).shows(["a"], "a"), False)
                self.assertIs(Reading([0, wrong]).shows(["a"], "aa"), False)
        self.assertIs(Reading([True]).shows(["a", "a"], "a"), False)
        self.assertIs(Reading([0]).shows([], ""), False)

    def test_same_word_several_times(self):
        for places in ([0, 0], [0, 1], [1, 0], [1, 1]):
            self.assertIs(Reading(places).shows(["a", "a"], "aa"), True)

    def test_by_the_fields_as_they_stand(self):
        reading = Reading([0])
        reading.places.append(1)
        self.assertIs(reading.shows(["a", "b"], "ab"), True)
        self.assertIs(reading.shows(["a", "b"], "a"), False)
        reading.places = []
        self.assertIs(reading.shows(["a", "b"], ""), True)
        reading.places = 0
        self.assertIs(reading.shows(["a", "b"], "a"), False)

    def test_asked_twice_and_of_several_in_turn(self):
        reading = Reading([0, 1])
        for turn in range(2):
            self.assertIs(reading.shows(["a", "b"], "ab"), True)
            self.assertIs(reading.shows(["b", "a"], "ab"), False)
            self.assertIs(reading.shows(["b", "a"], "ba"), True)
            self.assertIs(reading.shows([], "ab"), False)

    def test_what_is_handed_in_stays(self):
        code = ["a", "b"]
        reading = Reading([0, 1])
        reading.shows(code, "ab")
        self.assertEqual((code, reading.places), (["a", "b"], [0, 1]))


class StuckTest(unittest.TestCase):
    def test_marks_that_lead_nowhere(self):
        self.assertIs(Stuck([0]).shows(["b"], "a"), True)
        self.assertIs(Stuck([0, 1]).shows(["a"], "ab"), True)
        self.assertIs(Stuck([0, 1, 2]).shows(["a", "ab"], "abb"), True)

    def test_no_words(self):
        self.assertIs(Stuck([0]).shows([], "a"), True)
        self.assertIs(Stuck([0, 1]).shows([], "ab"), True)
        self.assertIs(Stuck([0]).shows([], ""), False)

    def test_the_first_mark_is_missing(self):
        self.assertIs(Stuck([]).shows(["b"], "a"), False)
        self.assertIs(Stuck([1]).shows(["x"], "ab"), False)
        self.assertIs(Stuck([]).shows([], ""), False)

    def test_the_last_mark_is_there(self):
        self.assertIs(Stuck([0, 1]).shows(["b"], "a"), False)
        self.assertIs(Stuck([0, 2]).shows([], "ab"), False)
        self.assertIs(Stuck([0]).shows(["a"], ""), False)

    def test_the_mark_behind_a_word_is_missing(self):
        self.assertIs(Stuck([0]).shows(["a"], "ab"), False)
        self.assertIs(Stuck([0, 1]).shows(["a", "ab"], "abb"), False)
        self.assertIs(Stuck([0, 2]).shows(["a", "ab"], "abb"), False)
        self.assertIs(Stuck([0, 1]).shows(["b"], "abc"), False)
        self.assertIs(Stuck([0, 1, 2]).shows(["b"], "abc"), True)

    def test_a_word_that_reaches_the_end(self):
        self.assertIs(Stuck([0]).shows(["a"], "a"), False)
        self.assertIs(Stuck([0, 1]).shows(["a", "b"], "ab"), False)
        self.assertIs(Stuck([0, 1]).shows(["ab"], "aab"), False)

    def test_a_word_longer_than_what_is_left(self):
        self.assertIs(Stuck([0]).shows(["abc"], "ab"), True)
        self.assertIs(Stuck([0, 1]).shows(["a", "bc", "bbbb"], "ab"), True)
        self.assertIs(Stuck([0, 1, 2]).shows(["a", "ab", "abcde"], "abx"), True)

    def test_numbers_that_are_no_marks(self):
        for wrong in (-1, 3, 100, 10 ** 20, True, False):
            with self.subTest(wrong=wrong):
                self.assertIs(Stuck([0, wrong]).shows(["x"], "ab"), False)
        self.assertIs(Stuck([False]).shows(["x"], "ab"), False)
        self.assertIs(Stuck([0, True]).shows(["a"], "ab"), False)

    def test_marks_in_any_order_and_told_twice(self):
        self.assertIs(Stuck([1, 0]).shows(["a"], "ab"), True)
        self.assertIs(Stuck([0, 1, 1, 0]).shows(["a"], "ab"), True)

    def test_same_word_several_times(self):
        self.assertIs(Stuck([0, 1]).shows(["a", "a"], "ab"), True)
        self.assertIs(Stuck([0]).shows(["a", "a"], "ab"), False)

    def test_by_the_fields_as_they_stand(self):
        stuck = Stuck([0])
        self.assertIs(stuck.shows(["a"], "ab"), False)
        stuck.marks.append(1)
        self.assertIs(stuck.shows(["a"], "ab"), True)
        stuck.marks = [0, 1, 2]
        self.assertIs(stuck.shows(["a"], "ab"), False)
        stuck.marks = 0
        self.assertIs(stuck.shows(["a"], "ab"), False)

    def test_asked_twice_and_of_several_in_turn(self):
        stuck = Stuck([0, 1])
        for turn in range(2):
            self.assertIs(stuck.shows(["a"], "ab"), True)
            self.assertIs(stuck.shows(["a"], "aa"), False)
            self.assertIs(stuck.shows(["b"], "ab"), False)
            self.assertIs(stuck.shows([], "abc"), True)

    def test_what_is_handed_in_stays(self):
        code = ["a"]
        stuck = Stuck([1, 0, 1])
        stuck.shows(code, "ab")
        self.assertEqual((code, stuck.marks), (["a"], [1, 0, 1]))

    def test_all_small_ones_never_both_and_one_of_them(self):
        words = ["a", "b", "ab", "ba", "aab"]
        texts = ["".join(signs) for size in range(5) for signs in itertools.product("ab", repeat=size)]
        for size in range(3):
            for code in itertools.combinations_with_replacement(words, size):
                code = list(code)
                readings = [list(p) for count in range(5) for p in itertools.product(range(size), repeat=count)]
                for text in texts:
                    read = any([Reading(places).shows(code, text) for places in readings])
                    stuck = False
                    for count in range(len(text) + 2):
                        for marks in itertools.combinations(range(len(text) + 1), count):
                            shown = Stuck(list(marks)).shows(code, text)
                            self.assertIs(shown, stuck_by_the_words_of_the_point(code, text, marks), (code, text, marks))
                            stuck = stuck or shown
                    self.assertIs(stuck, not read, (code, text))

    def test_a_long_text(self):
        code = ["a" * count for count in range(1, 21)]
        text = "a" * 3000 + "b"
        self.assertIs(Stuck(list(range(3001))).shows(code, text), True)
        self.assertIs(Stuck(list(range(3000))).shows(code, text), False)


if __name__ == "__main__":
    unittest.main()
