"""Point 5: Begins and Apart."""

import itertools
import unittest

from tworeadings.answers import Apart, Begins


class BeginsTest(unittest.TestCase):
    def test_a_word_that_begins_another(self):
        self.assertIs(Begins(0, 1).shows(["a", "ab"]), True)
        self.assertIs(Begins(2, 0).shows(["abc", "x", "ab"]), True)

    def test_the_other_way_round(self):
        self.assertIs(Begins(1, 0).shows(["a", "ab"]), False)

    def test_a_word_that_begins_no_other(self):
        self.assertIs(Begins(0, 1).shows(["a", "b"]), False)
        self.assertIs(Begins(0, 1).shows(["b", "ab"]), False)

    def test_same_word_at_two_places(self):
        self.assertIs(Begins(0, 1).shows(["ab", "ab"]), True)
        self.assertIs(Begins(1, 0).shows(["ab", "ab"]), True)

    def test_equal_places(self):
        self.assertIs(Begins(0, 0).shows(["a", "ab"]), False)
        self.assertIs(Begins(1, 1).shows(["a", "a"]), False)

    def test_places_that_are_none(self):
        self.assertIs(Begins(0, 1).shows([]), False)
        self.assertIs(Begins(0, 1).shows(["a"]), False)
        for wrong in (-1, -2, 2, 10 ** 20, True, False):
            with self.subTest(wrong=wrong):
                self.assertIs(Begins(wrong, 0).shows(["a", "a"]), False)
                self.assertIs(Begins(wrong, 1).shows(["a", "a"]), False)
                self.assertIs(Begins(0, wrong).shows(["a", "a"]), False)
                self.assertIs(Begins(1, wrong).shows(["a", "a"]), False)

    def test_by_the_fields_as_they_stand(self):
        begins = Begins(0, 1)
        begins.one, begins.other = 1, 0
        self.assertIs(begins.shows(["a", "ab"]), False)
        self.assertIs(begins.shows(["ab", "a"]), True)
        begins.one = [1]
        self.assertIs(begins.shows(["ab", "a"]), False)

    def test_asked_twice_and_of_several_codes_in_turn(self):
        begins = Begins(0, 1)
        for turn in range(2):
            self.assertIs(begins.shows(["a", "ab"]), True)
            self.assertIs(begins.shows(["ab", "a"]), False)
            self.assertIs(begins.shows([]), False)

    def test_what_is_handed_in_stays(self):
        code = ["a", "ab"]
        Begins(0, 1).shows(code)
        self.assertEqual(code, ["a", "ab"])


class ApartTest(unittest.TestCase):
    def test_words_in_order(self):
        self.assertIs(Apart([0, 1]).shows(["a", "b"]), True)
        self.assertIs(Apart([2, 0, 1]).shows(["ba", "bb", "a"]), True)
        self.assertIs(Apart([1, 0]).shows(["b", "aaaa"]), True)

    def test_no_words_and_one_word(self):
        self.assertIs(Apart([]).shows([]), True)
        self.assertIs(Apart([0]).shows([]), False)
        self.assertIs(Apart([0]).shows(["z"]), True)
        self.assertIs(Apart([]).shows(["z"]), False)

    def test_words_out_of_order(self):
        self.assertIs(Apart([1, 0]).shows(["a", "b"]), False)
        self.assertIs(Apart([0, 2, 1]).shows(["a", "ba", "bb"]), False)

    def test_a_word_that_begins_the_next_one(self):
        self.assertIs(Apart([0, 1]).shows(["a", "ab"]), False)
        self.assertIs(Apart([0, 1, 2]).shows(["a", "b", "bc"]), False)
        self.assertIs(Apart([0, 2, 1]).shows(["a", "ac", "ab"]), False)

    def test_same_word_at_two_places(self):
        self.assertIs(Apart([0, 1]).shows(["a", "a"]), False)
        self.assertIs(Apart([1, 0]).shows(["a", "a"]), False)
        self.assertIs(Apart([0]).shows(["a", "a"]), False)

    def test_a_place_that_is_missing_or_there_twice(self):
        self.assertIs(Apart([0]).shows(["a", "b"]), False)
        self.assertIs(Apart([1]).shows(["a", "b"]), False)
        self.assertIs(Apart([0, 0, 1]).shows(["a", "b"]), False)
        self.assertIs(Apart([0, 0]).shows(["a", "b"]), False)

    def test_places_that_are_none(self):
        for wrong in (-1, 2, True, 10 ** 20):
            with self.subTest(wrong=wrong):
                self.assertIs(Apart([0, wrong]).shows(["a", "b"]), False)
        self.assertIs(Apart([False, 1]).shows(["a", "b"]), False)
        self.assertIs(Apart([0, 1, 2]).shows(["a", "b"]), False)

    def test_by_the_fields_as_they_stand(self):
        apart = Apart([0])
        self.assertIs(apart.shows(["a", "b"]), False)
        apart.order.append(1)
        self.assertIs(apart.shows(["a", "b"]), True)
        apart.order = [1, 0]
        self.assertIs(apart.shows(["a", "b"]), False)
        apart.order = 0
        self.assertIs(apart.shows(["a"]), False)

    def test_asked_twice_and_of_several_codes_in_turn(self):
        apart = Apart([1, 0])
        for turn in range(2):
            self.assertIs(apart.shows(["b", "a"]), True)
            self.assertIs(apart.shows(["a", "b"]), False)
            self.assertIs(apart.shows([]), False)
            self.assertIs(apart.shows(["z", "y"]), True)

    def test_what_is_handed_in_stays(self):
        code = ["b", "a"]
        apart = Apart([1, 0])
        apart.shows(code)
        self.assertEqual((code, apart.order), (["b", "a"], [1, 0]))

    def test_all_small_codes_never_both_and_one_of_them(self):
        for size in range(4):
            for code in itertools.product(["a", "b", "ab", "ba", "bb", "aab"], repeat=size):
                code = list(code)
                pairs = list(itertools.product(range(size), repeat=2))
                begun = [pair for pair in pairs if pair[0] != pair[1] and code[pair[1]].startswith(code[pair[0]])]
                for pair in pairs:
                    self.assertIs(Begins(*pair).shows(code), pair in begun, (code, pair))
                orders = [list(order) for order in itertools.permutations(range(size))]
                shown = [order for order in orders if Apart(order).shows(code)]
                if begun:
                    self.assertEqual(shown, [], code)
                else:
                    self.assertEqual([[code[place] for place in order] for order in shown], [sorted(code)])


if __name__ == "__main__":
    unittest.main()
