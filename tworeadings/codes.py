"""Letters, words, codes, places and marks, and the text of a reading."""

from tworeadings.errors import BadCode, BadPlaces

LETTERS = "abcdefghijklmnopqrstuvwxyz"


def is_whole(value):
    # Python counts True and False among its whole numbers, the program doesn't.
    return isinstance(value, int) and not isinstance(value, bool)


def is_word(value, letters):
    # What is left once these letters are gone from the front begins with another sign.
    return isinstance(value, str) and value != "" and value.lstrip(letters) == ""


def are_words(values, letters):
    return isinstance(values, list) and all([is_word(value, letters) for value in values])


def is_code(value):
    return are_words(value, LETTERS)


def is_place(value, count):
    return is_whole(value) and 0 <= value < count


def are_places(values, count):
    return isinstance(values, list) and all([is_place(value, count) for value in values])


def words_at(code, places):
    return [code[place] for place in places]


def joined(code, places):
    return "".join(words_at(code, places))


def text_of(code, places):
    if not is_code(code):
        raise BadCode("no list of words of one letter or more")
    if not are_places(places, len(code)):
        raise BadPlaces("no list of places of the code")
    return joined(code, places)


def noted(values):
    return dict([(value, True) for value in values])


def grouped(words):
    groups = {}
    for word in words:
        if len(word) not in groups:
            groups[len(word)] = {}
        groups[len(word)][word] = True
    return groups


def marks_behind(groups, text, mark):
    # One look for each length spares a walk over all words; a slice that the text's end
    # cuts short is too short for its group and so is never found there.
    return [mark + length for length in groups if text[mark:mark + length] in groups[length]]
