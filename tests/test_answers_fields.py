"""The interface: the eight answers, their fields as copies, and fields of any kind of list."""

import unittest

from tworeadings import answers
from tworeadings.answers import Answer, Apart, Begins, Clash, Full, Reading, Stuck, Tails, Words

WITH_LISTS = (
    (Clash, ("one", "other"), ([0, 1], [2])),
    (Tails, ("tails",), (["a", "ab"],)),
    (Apart, ("order",), ([1, 0],)),
    (Reading, ("places",), ([0, 0, 1],)),
    (Stuck, ("marks",), ([0, 2],)),
    (Words, ("words",), (["a", "ba"],)),
)
ODD_FIELDS = (
    0, 1, -1, True, False, "", "a", "ab", [], [0], [-1], [99], [True], [False], [0, True], ["a"], [""], ["0"],
    [0, "a"], ["a", 0], [[0]], [[]], [["a"]], [[0], "a", 1], [0, [0]], [["a"], ["b"]], None, [None], (), (0,), ("a",),
    {}, {0: True}, [{}], [(0,)], 1.0, [0.0],
)


def asked(answer):
    if isinstance(answer, (Reading, Stuck)):
        return answer.shows(["a", "ab"], "aab")
    if isinstance(answer, (Words, Full)):
        return answer.shows(2, [1, 2])
    return answer.shows(["a", "ab"])


class FieldsTest(unittest.TestCase):
    def test_each_answer_is_straight_under_answer(self):
        for name in ("Clash", "Tails", "Reading", "Stuck", "Begins", "Apart", "Words", "Full"):
            with self.subTest(name=name):
                self.assertEqual(getattr(answers, name).__bases__, (Answer,))

    def test_fields_hold_what_was_handed_in(self):
        for kind, names, values in WITH_LISTS:
            answer = kind(*values)
            for name, value in zip(names, values):
                with self.subTest(kind=kind, name=name):
                    self.assertEqual(getattr(answer, name), value)
        begins = Begins(3, 5)
        self.assertEqual((begins.one, begins.other), (3, 5))
        self.assertEqual(vars(Full()), {})

    def test_arguments_are_called_like_the_fields(self):
        for kind, names, values in WITH_LISTS:
            with self.subTest(kind=kind):
                answer = kind(**dict(zip(names, values)))
                self.assertEqual(vars(answer), dict(zip(names, values)))
        self.assertEqual(vars(Begins(other=1, one=0)), {"one": 0, "other": 1})

    def test_a_list_changed_later_changes_no_answer(self):
        for kind, names, values in WITH_LISTS:
            handed = [list(value) for value in values]
            answer = kind(*handed)
            for value in handed:
                value.append("later")
            for name, value in zip(names, values):
                with self.subTest(kind=kind, name=name):
                    self.assertEqual(getattr(answer, name), value)

    def test_a_field_changed_changes_no_list_handed_in(self):
        for kind, names, values in WITH_LISTS:
            handed = [list(value) for value in values]
            answer = kind(*handed)
            for name in names:
                getattr(answer, name).append("later")
            with self.subTest(kind=kind):
                self.assertEqual(handed, list(values))

    def test_two_fields_of_one_list_are_two_lists(self):
        places = [0]
        clash = Clash(places, places)
        clash.one.append(1)
        self.assertEqual((clash.one, clash.other, places), ([0, 1], [0], [0]))

    def test_lists_within_lists_are_copied_too(self):
        for kind, names, values in WITH_LISTS:
            inner = [[0], "a"]
            answer = kind(*[[inner, 1] for name in names])
            inner[0].append(5)
            inner.append("later")
            for name in names:
                with self.subTest(kind=kind, name=name):
                    self.assertEqual(getattr(answer, name), [[[0], "a"], 1])

    def test_lists_deep_within_lists_are_copied_too(self):
        deep = []
        for step in range(5000):
            deep = [deep]
        self.assertEqual(len(Reading(deep).places), 1)
        self.assertIs(Reading(deep).shows(["a"], ""), False)

    def test_two_answers_of_one_list_are_apart(self):
        tails = ["a"]
        one, other = Tails(tails), Tails(tails)
        one.tails.append("b")
        self.assertEqual((other.tails, tails), (["a"], ["a"]))

    def test_odd_fields_are_shown_or_not_but_never_fail(self):
        for kind, names, values in WITH_LISTS + ((Begins, ("one", "other"), (0, 1)),):
            for odd in ODD_FIELDS:
                for name in names:
                    answer = kind(*values)
                    setattr(answer, name, odd)
                    with self.subTest(kind=kind, name=name, odd=odd):
                        self.assertIn(asked(answer), (True, False))
                        self.assertIs(type(asked(answer)), bool)
                        made = kind(*[odd for each in names])
                        self.assertIs(type(asked(made)), bool)

    def test_odd_members_are_never_shown(self):
        code = ["a", "b"]
        for odd in (True, False, "a", [0], None, -1, 2, 0.0, (0,)):
            with self.subTest(odd=odd):
                self.assertIs(Clash([0, odd], [0, 1]).shows(code), False)
                self.assertIs(Clash([0, 1], [0, odd]).shows(code), False)
                self.assertIs(Clash([odd], [odd, odd]).shows(code), False)
                self.assertIs(Reading([odd]).shows(code, "a"), False)
                self.assertIs(Reading([odd]).shows(code, "b"), False)
                self.assertIs(Begins(odd, 0).shows(["a", "a"]), False)
                self.assertIs(Begins(1, odd).shows(["a", "a"]), False)
                self.assertIs(Apart([odd, 1]).shows(code), False)
                self.assertIs(Apart([0, odd]).shows(code), False)
        for odd in (True, False, "a", [0], None, -1, 4, 10 ** 20, 0.0, (0,)):
            with self.subTest(odd=odd):
                self.assertIs(Stuck([0, odd]).shows(["b"], "aaa"), False)
                self.assertIs(Stuck([odd]).shows(["b"], "aaa"), False)
        for odd in (True, 0, 1, ["a"], None, (), b"a", ""):
            with self.subTest(odd=odd):
                self.assertIs(Tails([odd]).shows(["b"]), False)
                self.assertIs(Tails(["c", odd]).shows(["b"]), False)
                self.assertIs(Words([odd]).shows(2, [1]), False)
                self.assertIs(Words(["a", odd]).shows(2, [1, 1]), False)

    def test_places_that_are_lists_are_copied_too(self):
        places = [0]
        begins = Begins(places, places)
        places.append(1)
        self.assertEqual((begins.one, begins.other), ([0], [0]))

    def test_of_what_is_no_code_nothing_is_shown(self):
        for wrong in (None, 0, "aa", ("a", "a"), ["a", ""], ["A", "A"], ["a", 1], [["a"]]):
            with self.subTest(wrong=wrong):
                self.assertIs(Clash([0], [1]).shows(wrong), False)
                self.assertIs(Tails([]).shows(wrong), False)
                self.assertIs(Begins(0, 1).shows(wrong), False)
                self.assertIs(Apart([0, 1]).shows(wrong), False)
                self.assertIs(Reading([]).shows(wrong, ""), False)
                self.assertIs(Stuck([0]).shows(wrong, "b"), False)
        self.assertIs(Reading([]).shows([], None), False)
        self.assertIs(Stuck([0]).shows([], None), False)

    def test_of_no_such_count_and_no_lengths_nothing_is_shown(self):
        for wrong in (None, 0, -1, 27, True, "a", [2]):
            with self.subTest(wrong=wrong):
                self.assertIs(Words(["a"]).shows(wrong, [1]), False)
                self.assertIs(Full().shows(wrong, [1] * 30), False)
        for wrong in (None, 1, "a", (1, 1, 1), [1, 1, 0], [1, 1, -1], [1, 1, True], [1, 1, "a"], [[1]]):
            with self.subTest(wrong=wrong):
                self.assertIs(Words(["a", "b", "c"]).shows(3, wrong), False)
                self.assertIs(Full().shows(1, wrong), False)


if __name__ == "__main__":
    unittest.main()
