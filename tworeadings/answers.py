"""What is told of a code, of a code and a text, or of letters and lengths, and whether it is so."""

from tworeadings.codes import LETTERS, are_places, are_words, grouped, is_code, is_place, is_whole
from tworeadings.codes import joined, marks_behind, noted, words_at


def copied(value):
    if not isinstance(value, list):
        return value
    told = list(value)
    waiting = [told]
    # Lists within lists are handed in too, and none of them may be kept.
    while waiting:
        members = waiting.pop()
        for place in range(len(members)):
            if isinstance(members[place], list):
                members[place] = list(members[place])
                waiting.append(members[place])
    return told


def are_tails(values):
    return isinstance(values, list) and all([isinstance(value, str) and value != "" for value in values])


def rests_known(heads, texts, known):
    groups = grouped(heads)
    for text in texts:
        for mark in marks_behind(groups, text, 0):
            if text[mark:] not in known:
                return False
    return True


def tails_closed(code, tails):
    words = noted(code)
    # A word at two places leaves an empty rest, and no tail is empty.
    if len(words) != len(code):
        return False
    known = noted(tails)
    # Among unlike words an empty rest is that of a word behind itself, at one place only.
    if not rests_known(code, code, noted(tails + [""])):
        return False
    return rests_known(code, tails, known) and rests_known(tails, code, known)


def marks_closed(code, text, known):
    groups = grouped(code)
    for mark in known:
        for behind in marks_behind(groups, text, mark):
            if behind not in known:
                return False
    return True


def none_begins_next(words):
    for one, other in zip(words, words[1:]):
        if other.startswith(one):
            return False
    return True


def is_count(letters):
    return is_whole(letters) and 1 <= letters <= len(LETTERS)


def are_lengths(values):
    # No upper bound: answers are asked about lengths above 100 too.
    return isinstance(values, list) and all([is_whole(value) and value >= 1 for value in values])


def spread(free, letters, steps, enough):
    # Beyond one text for each word that is to come the count doesn't matter, and one letter
    # never makes it grow: so no length, however great, takes long.
    while steps > 0 and letters > 1 and free < enough:
        free = free * letters
        steps = steps - 1
    return min(free, enough)


def overfull(letters, lengths):
    free = 1
    depth = 0
    left = len(lengths)
    for length in sorted(lengths):
        # Where no text is free at one count of letters none is at a greater one.
        if free == 0:
            return True
        free = spread(free, letters, length - depth, left) - 1
        depth = length
        left = left - 1
    return False


class Answer:
    pass


class Clash(Answer):
    def __init__(self, one, other):
        self.one = copied(one)
        self.other = copied(other)

    def shows(self, code):
        if not is_code(code):
            return False
        if not are_places(self.one, len(code)) or not are_places(self.other, len(code)):
            return False
        return self.one != self.other and joined(code, self.one) == joined(code, self.other)


class Tails(Answer):
    def __init__(self, tails):
        self.tails = copied(tails)

    def shows(self, code):
        return is_code(code) and are_tails(self.tails) and tails_closed(code, self.tails)


class Reading(Answer):
    def __init__(self, places):
        self.places = copied(places)

    def shows(self, code, text):
        return is_code(code) and are_places(self.places, len(code)) and joined(code, self.places) == text


class Stuck(Answer):
    def __init__(self, marks):
        self.marks = copied(marks)

    def shows(self, code, text):
        if not is_code(code) or not isinstance(text, str):
            return False
        # Marks are the places in front of each letter, and the last one behind them all.
        if not are_places(self.marks, len(text) + 1):
            return False
        known = noted(self.marks)
        return 0 in known and len(text) not in known and marks_closed(code, text, known)


class Begins(Answer):
    def __init__(self, one, other):
        self.one = copied(one)
        self.other = copied(other)

    def shows(self, code):
        if not is_code(code):
            return False
        if not is_place(self.one, len(code)) or not is_place(self.other, len(code)):
            return False
        return self.one != self.other and code[self.other].startswith(code[self.one])


class Apart(Answer):
    def __init__(self, order):
        self.order = copied(order)

    def shows(self, code):
        if not is_code(code) or not are_places(self.order, len(code)):
            return False
        if sorted(self.order) != list(range(len(code))):
            return False
        words = words_at(code, self.order)
        return words == sorted(words) and none_begins_next(words)


class Words(Answer):
    def __init__(self, words):
        self.words = copied(words)

    def shows(self, letters, lengths):
        if not is_count(letters) or not are_lengths(lengths):
            return False
        if not are_words(self.words, LETTERS[:letters]):
            return False
        if [len(word) for word in self.words] != lengths:
            return False
        # In the order of texts what begins with a word stands right behind it.
        return none_begins_next(sorted(self.words))


class Full(Answer):
    def shows(self, letters, lengths):
        return is_count(letters) and are_lengths(lengths) and overfull(letters, lengths)
