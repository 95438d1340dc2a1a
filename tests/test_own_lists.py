"""Point 1: what is handed in stays, what is told is new and the asker's own, a call repeated tells the same."""

import copy
import unittest

from helper import refusal
from tworeadings.codes import text_of
from tworeadings.errors import BadPlaces, WordError
from tworeadings.lengths import of_lengths
from tworeadings.reading import how_many, number_of, read, told
from tworeadings.telling import begins, once

CALLS = (
    (once, (["ab", "c", "abc"],)), (once, (["a", "ab", "bcd"],)), (once, ([],)), (once, (["b", "b"],)),
    (begins, (["b", "a", "ca"],)), (begins, (["ab", "x", "a"],)), (begins, ([],)),
    (read, (["ab", "c", "abc"], "abcc")), (read, (["ab", "a"], "abb")), (read, ([], "")), (read, ([], "a")),
    (how_many, (["a", "aa", "a"], "aaaa")), (how_many, ([], "a")),
    (told, (["a", "aa", "a"], "aaaa", 7)), (told, (["a"], "", 0)),
    (number_of, (["a", "aa", "a"], "aaaa", [2, 1, 0])), (number_of, ([], "", [])),
    (of_lengths, (2, [3, 1, 3, 2])), (of_lengths, (2, [2, 1, 1])), (of_lengths, (5, [])),
    (text_of, (["a", "b"], [1, 0])),
)
REFUSED = (
    (once, (["ab", ""],)), (begins, (["b", "A"],)), (read, (["a", 1], "a")), (how_many, (["a"], ["b"])),
    (told, (["b", "a"], "ab", [1])), (told, (["b"], "a", 0)), (number_of, (["b", "a"], "ab", [0, 1])),
    (of_lengths, (2, [3, 1, 0])), (of_lengths, (0, [3, 1])),
)


def plain(value):
    """What is told, as values that can be compared."""
    fields = getattr(value, "__dict__", None)
    return copy.deepcopy(value if fields is None else (value.__class__, fields))


def lists_of(value):
    if isinstance(value, list):
        return [value]
    return [field for field in getattr(value, "__dict__", {}).values() if isinstance(field, list)]


class OwnListsTest(unittest.TestCase):
    def test_what_is_handed_in_stays(self):
        for function, arguments in CALLS + REFUSED:
            handed = copy.deepcopy(arguments)
            with self.subTest(function=function, arguments=arguments):
                wrong = refusal(function, *handed)
                self.assertEqual(wrong is not None, (function, arguments) in REFUSED)
                self.assertTrue(wrong is None or issubclass(wrong, WordError))
                self.assertEqual(handed, arguments)

    def test_a_call_repeated_tells_the_same(self):
        for function, arguments in CALLS:
            first = plain(function(*copy.deepcopy(arguments)))
            for turn in range(2):
                for other, others in CALLS:
                    other(*copy.deepcopy(others))
                with self.subTest(function=function, arguments=arguments):
                    self.assertEqual(plain(function(*copy.deepcopy(arguments))), first)

    def test_what_is_told_is_the_askers_own(self):
        for function, arguments in CALLS:
            handed = copy.deepcopy(arguments)
            answer = function(*handed)
            first = plain(answer)
            with self.subTest(function=function, arguments=arguments):
                for members in lists_of(answer):
                    self.assertFalse(any(members is each for each in handed))
                    members.append("later")
                    members.reverse()
                self.assertEqual(handed, arguments)
                self.assertEqual(plain(function(*handed)), first)

    def test_two_answers_share_no_list(self):
        for function, arguments in CALLS:
            one, other = function(*arguments), function(*arguments)
            with self.subTest(function=function, arguments=arguments):
                for first, second in zip(lists_of(one), lists_of(other)):
                    self.assertIsNot(first, second)

    def test_the_two_readings_of_a_clash_are_two_lists(self):
        for code in (["a", "a"], ["ab", "c", "abc"], ["aa", "aaa"]):
            clash = once(code)
            self.assertIsNot(clash.one, clash.other)

    def test_what_is_handed_in_is_not_kept(self):
        code = ["a", "b", "c"]
        answers = (once(code), begins(code), read(code, "abc"), read(code, "abx"))
        before = [plain(answer) for answer in answers]
        code[0] = "bc"
        self.assertEqual([plain(answer) for answer in answers], before)
        self.assertEqual(how_many(code, "bc"), 2)
        self.assertEqual(told(code, "bc", 0), [0])
        places = [0]
        self.assertEqual(number_of(code, "bc", places), 0)
        places.append(0)
        self.assertIs(refusal(number_of, code, "bc", places), BadPlaces)
        lengths = [1, 2]
        words = of_lengths(2, lengths)
        lengths.append(2)
        self.assertEqual(len(words.words), 2)
        self.assertEqual(len(of_lengths(2, lengths).words), 3)


if __name__ == "__main__":
    unittest.main()
