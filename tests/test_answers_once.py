"""Point 2: Clash and Tails."""

import itertools
import unittest

from helper import are_tails_of, words_up_to
from tworeadings.answers import Clash, Tails


def readings_up_to(count, most):
    return [list(places) for size in range(most + 1) for places in itertools.product(range(count), repeat=size)]


def rests_that_come_up(code):
    found = []
    for one, first in enumerate(code):
        for other, second in enumerate(code):
            if one != other and second.startswith(first) and second[len(first):] not in found:
                found.append(second[len(first):])
    for tail in found:
        for word in code:
            for head, whole in ((tail, word), (word, tail)):
                if whole.startswith(head) and whole[len(head):] not in found:
                    found.append(whole[len(head):])
    return found


class ClashTest(unittest.TestCase):
    def test_two_readings_of_one_text(self):
        self.assertIs(Clash([0, 1], [2]).shows(["ab", "c", "abc"]), True)
        self.assertIs(Clash([2], [0, 1]).shows(["ab", "c", "abc"]), True)
        self.assertIs(Clash([0, 3], [1, 2]).shows(["a", "ab", "c", "bc"]), True)

    def test_same_word_at_two_places(self):
        self.assertIs(Clash([0], [1]).shows(["a", "a"]), True)
        self.assertIs(Clash([0, 0, 1], [0, 0, 0]).shows(["a", "a"]), True)

    def test_places_in_another_order(self):
        self.assertIs(Clash([0, 1], [1, 0]).shows(["a", "aa"]), True)
        self.assertIs(Clash([0, 1], [1, 0]).shows(["a", "b"]), False)

    def test_texts_that_differ(self):
        self.assertIs(Clash([0, 1], [2]).shows(["ab", "c", "abd"]), False)
        self.assertIs(Clash([0], [1]).shows(["a", "aa"]), False)
        self.assertIs(Clash([], [0]).shows(["a"]), False)
        self.assertIs(Clash([0], []).shows(["a"]), False)

    def test_readings_that_are_alike(self):
        self.assertIs(Clash([0, 1], [0, 1]).shows(["ab", "c", "abc"]), False)
        self.assertIs(Clash([0], [0]).shows(["a", "a"]), False)
        self.assertIs(Clash([], []).shows(["a"]), False)
        self.assertIs(Clash([], []).shows([]), False)

    def test_places_that_are_none(self):
        code = ["a", "a"]
        for wrong in (-1, 2, True, False):
            with self.subTest(wrong=wrong):
                self.assertIs(Clash([wrong], [0]).shows(code), False)
                self.assertIs(Clash([0], [wrong]).shows(code), False)
        self.assertIs(Clash([0], [1]).shows(["a"]), False)
        self.assertIs(Clash([0], [1]).shows([]), False)

    def test_by_the_fields_as_they_stand(self):
        code = ["ab", "c", "abc"]
        clash = Clash([0, 1], [2])
        clash.one.append(1)
        self.assertIs(clash.shows(code), False)
        clash.other.append(1)
        self.assertIs(clash.shows(code), True)
        clash.one = [2, 1]
        self.assertIs(clash.shows(code), False)
        clash.one, clash.other = [0, 1], [2]
        self.assertIs(clash.shows(code), True)

    def test_asked_twice_and_of_several_codes_in_turn(self):
        clash = Clash([0], [1])
        for turn in range(2):
            self.assertIs(clash.shows(["a", "a"]), True)
            self.assertIs(clash.shows(["a", "b"]), False)
            self.assertIs(clash.shows([]), False)
            self.assertIs(clash.shows(["xyz", "xyz", "x"]), True)
        code = ["a", "a"]
        self.assertIs(clash.shows(code), True)
        code[1] = "b"
        self.assertIs(clash.shows(code), False)

    def test_what_is_handed_in_stays(self):
        code = ["ab", "c", "abc"]
        clash = Clash([0, 1], [2])
        clash.shows(code)
        self.assertEqual((code, clash.one, clash.other), (["ab", "c", "abc"], [0, 1], [2]))

    def test_all_small_codes_and_readings(self):
        for size in range(3):
            for code in itertools.product(words_up_to("ab", 2), repeat=size):
                for one in readings_up_to(size, 2):
                    for other in readings_up_to(size, 3):
                        same = "".join(code[k] for k in one) == "".join(code[k] for k in other)
                        self.assertIs(Clash(one, other).shows(list(code)), one != other and same, (code, one, other))


class TailsTest(unittest.TestCase):
    def test_no_words(self):
        self.assertIs(Tails([]).shows([]), True)
        self.assertIs(Tails(["a", "ba"]).shows([]), True)

    def test_no_tails(self):
        self.assertIs(Tails([]).shows(["a"]), True)
        self.assertIs(Tails([]).shows(["a", "ba", "bb"]), True)
        self.assertIs(Tails([]).shows(["a", "ab"]), False)

    def test_the_rest_of_a_word_is_missing(self):
        self.assertIs(Tails(["b"]).shows(["a", "ab"]), True)
        self.assertIs(Tails(["c"]).shows(["a", "ab"]), False)
        self.assertIs(Tails(["b"]).shows(["ab", "a"]), True)
        self.assertIs(Tails(["c"]).shows(["ab", "a"]), False)

    def test_the_rest_behind_a_tail_is_missing(self):
        self.assertIs(Tails(["b", "c"]).shows(["a", "ab", "bc"]), True)
        self.assertIs(Tails(["b"]).shows(["a", "ab", "bc"]), False)
        self.assertIs(Tails(["b", "cd"]).shows(["a", "ab", "bcd"]), True)
        self.assertIs(Tails(["b"]).shows(["a", "ab", "bcd"]), False)

    def test_the_rest_of_a_tail_is_missing(self):
        self.assertIs(Tails(["bcd", "cd"]).shows(["b", "bbcd"]), True)
        self.assertIs(Tails(["bcd"]).shows(["b", "bbcd"]), False)

    def test_a_tail_that_is_a_word(self):
        self.assertIs(Tails(["b"]).shows(["a", "ab", "b"]), False)
        self.assertIs(Tails(["x"]).shows(["x"]), False)
        self.assertIs(Tails(["x", ""]).shows(["x"]), False)

    def test_an_empty_tail(self):
        self.assertIs(Tails([""]).shows([]), False)
        self.assertIs(Tails([""]).shows(["a"]), False)
        self.assertIs(Tails(["b", ""]).shows(["a", "ab"]), False)

    def test_same_word_at_two_places(self):
        self.assertIs(Tails([]).shows(["a", "a"]), False)
        self.assertIs(Tails([""]).shows(["a", "a"]), False)
        self.assertIs(Tails(["b"]).shows(["a", "ab", "a"]), False)

    def test_tails_that_nothing_asks_for_and_tails_told_twice(self):
        self.assertIs(Tails(["zz"]).shows(["a"]), True)
        self.assertIs(Tails(["b", "b", "zz"]).shows(["a", "ab"]), True)
        self.assertIs(Tails(["ac"]).shows(["a"]), False)
        self.assertIs(Tails(["ac", "c"]).shows(["a"]), True)

    def test_a_word_that_begins_itself_asks_for_nothing(self):
        self.assertIs(Tails([]).shows(["abc"]), True)

    def test_by_the_fields_as_they_stand(self):
        tails = Tails([])
        self.assertIs(tails.shows(["a", "ab"]), False)
        tails.tails.append("b")
        self.assertIs(tails.shows(["a", "ab"]), True)
        tails.tails = ["b", ""]
        self.assertIs(tails.shows(["a", "ab"]), False)
        tails.tails = 3
        self.assertIs(tails.shows(["a", "ab"]), False)

    def test_asked_twice_and_of_several_codes_in_turn(self):
        tails = Tails(["b"])
        for turn in range(2):
            self.assertIs(tails.shows(["a", "ab"]), True)
            self.assertIs(tails.shows(["a", "ac"]), False)
            self.assertIs(tails.shows([]), True)
            self.assertIs(tails.shows(["b"]), False)

    def test_what_is_handed_in_stays(self):
        code = ["a", "ab"]
        tails = Tails(["b"])
        tails.shows(code)
        self.assertEqual((code, tails.tails), (["a", "ab"], ["b"]))

    def test_all_small_codes_and_tails(self):
        texts = words_up_to("ab", 2)
        for size in range(3):
            for code in itertools.product(words_up_to("ab", 3), repeat=size):
                for count in range(len(texts) + 1):
                    for tails in itertools.combinations(texts, count):
                        expected = are_tails_of(list(code), list(tails))
                        self.assertIs(Tails(list(tails)).shows(list(code)), expected, (code, tails))

    def test_never_both_and_one_of_them(self):
        for size in range(4):
            for code in itertools.combinations_with_replacement(words_up_to("ab", 2) + ["aba", "bab"], size):
                code = list(code)
                rests = rests_that_come_up(code)
                known = {}
                clashes = 0
                for places in readings_up_to(size, 5 if size < 3 else 4):
                    text = "".join(code[place] for place in places)
                    if text in known:
                        clashes += Clash(known[text], places).shows(code)
                    known.setdefault(text, places)
                self.assertIs(Tails(rests).shows(code), "" not in rests, code)
                self.assertEqual(clashes > 0, "" in rests, code)

    def test_many_words_and_tails(self):
        code = ["a" * count + "b" for count in range(300)]
        self.assertIs(Tails([]).shows(code), True)
        chain = ["b" + "a" * count for count in range(300)]
        self.assertIs(Tails(["a" * count for count in range(1, 300)]).shows(chain), True)
        self.assertIs(Tails(["a" * count for count in range(1, 299)]).shows(chain), False)


if __name__ == "__main__":
    unittest.main()
