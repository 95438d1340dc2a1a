"""Letters, words, codes, places and marks, and the text of a reading."""

from tworeadings.errors import BadCode, BadPlaces

LETTERS = "abcdefghijklmnopqrstuvwxyz"


def is_whole(value):
    # Python counts True and False among its whole numbers, the program doesn't.
    return isinstance(value, int) and not isinstance(value, bool)


def is_word(value, letters):
    # What is left once these letters are gone from the front begins with another sign.
    return isinstance(value, str) and value != "" and value.lstrip(letters) == ""


def are_words(values, letters):
    return isinstance(values, list) and all([is_word(value, letters) for value in values])


def is_code(value):
    return are_words(value, LETTERS)


def is_place(value, count):
    return is_whole(value) and 0 <= value < count


def are_places(values, count):
    return isinstance(values, list) and all([is_place(value, count) for value in values])


def words_at(code, places):
    return [code[place] for place in places]


def joined(code, places):
    return "".join(words_at(code, places))


def check_code(value):
    if not is_code(value):
        raise BadCode("no list of words of one letter or more")


def text_of(code, places):
    check_code(code)
    if not are_places(places, len(code)):
        raise BadPlaces("no list of places of the code")
    return joined(code, places)


def noted(values):
    return dict([(value, True) for value in values])


def in_order(values):
    return sorted(range(len(values)), key=lambda place: values[place])


def count_below(values, value):
    # The values are sorted, so halving finds the first one that is not below.
    low = 0
    high = len(values)
    while low < high:
        middle = (low + high) // 2
        if values[middle] < value:
            low = middle + 1
        else:
            high = middle
    return low


def grouped(words):
    groups = {}
    for place, word in enumerate(words):
        if len(word) not in groups:
            groups[len(word)] = {}
        groups[len(word)].setdefault(word, []).append(place)
    return groups


def standing(groups, text, mark):
    # One look for each length spares a walk over all words. A length beyond the text's end is left
    # out: cutting and looking up all that is behind each mark would take long in a long text.
    left = len(text) - mark
    found = []
    for length in groups:
        if length <= left:
            places = groups[length].get(text[mark:mark + length])
            if places is not None:
                found.append((mark + length, places))
    return found


def marks_behind(groups, text, mark):
    return [behind for behind, places in standing(groups, text, mark)]


def unrolled(chain):
    # A chain holds its last place and the chain ahead of it, so that many readings share
    # what they begin with; None is the empty one.
    places = []
    while chain is not None:
        places.append(chain[0])
        chain = chain[1]
    places.reverse()
    return places
