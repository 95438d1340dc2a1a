"""What several tests need: things of many kinds, and the points told once more in their own words."""

import itertools

NO_LISTS = (
    None, True, False, 0, 7, -1, 1.5, "", "ab", b"ab", (), ("a",), {}, {"a": 1}, {0: "a"}, set(), {"a"},
    frozenset(["a"]), range(2), object(), object, len, iter(["a"]), (word for word in ["a"]), bytearray(b"a"),
)
NO_WORDS = (
    "", "A", "Z", "aB", " ", "a ", " a", "a b", "a-b", "a1", "1", "`", "{", "a{", "`a", "~", "a\n", "\na", "\t", "a\tb",
    None, True, False, 0, 1, 1.0, b"a", (), ("a",), [], ["a"], {}, {"a": 1}, {"a"}, object(), str,
)
# No places of a code of two words.
NO_PLACES = (
    -1, -2, 2, 3, 10 ** 30, -(10 ** 30), True, False, None, 0.0, 1.0, "", "0", "a", b"0", (), (0,), [], [0], {}, {0},
    object(), int, 1j,
)
NO_TEXTS = tuple(value for value in NO_WORDS if value != "") + ([], ["a", "b"], ["ab"], range(2), len, 10 ** 5000, b"")
NO_NUMBERS = (
    None, True, False, "", "0", "a", 0.0, 1.0, 0.5, 1j, b"0", (), (0,), [], [0], {}, {0: 0}, set(), object(), int,
)


def words_up_to(letters, most):
    return ["".join(signs) for count in range(1, most + 1) for signs in itertools.product(letters, repeat=count)]


def ring():
    members = []
    members.append(members)
    return members


def no_codes():
    inside = [code for wrong in NO_WORDS for code in ([wrong], ["a", wrong], [wrong, "a"], ["a", wrong, "b"])]
    return list(NO_LISTS) + inside + [ring(), ["a", ring()]]


def refusal(function, *arguments):
    """The class of what is raised, itself and not one above it; None if nothing is."""
    try:
        function(*arguments)
    except Exception as error:
        return error.__class__
    return None


def two_readings(code):
    """Whether some text has two readings, letter by letter: both readings walk through their words at once."""
    def moves(state, letter):
        place, count = state
        following = [place] if place is not None else range(len(code))
        ends = [(each, count + 1) for each in following if code[each][count] == letter]
        return [(None, 0) if size == len(code[each]) else (each, size) for each, size in ends]

    def after(place):
        return (None, 0) if len(code[place]) == 1 else (place, 1)

    pairs = [(one, other) for one in range(len(code)) for other in range(one)]
    waiting = [(after(one), after(other)) for one, other in pairs if code[one][0] == code[other][0]]
    known = set(waiting)
    while waiting:
        one, other = waiting.pop()
        if one == other == (None, 0):
            return True
        for letter in sorted(set("".join(code))):
            for pair in [(first, second) for first in moves(one, letter) for second in moves(other, letter)]:
                if pair not in known:
                    known.add(pair)
                    waiting.append(pair)
    return False


def are_tails_of(code, tails):
    if "" in tails:
        return False
    known = set(tails)
    for one, first in enumerate(code):
        for other, second in enumerate(code):
            if one != other and second[:len(first)] == first and second[len(first):] not in known:
                return False
    for tail in tails:
        for word in code:
            if word[:len(tail)] == tail and word[len(tail):] not in known:
                return False
            if tail[:len(word)] == word and tail[len(word):] not in known:
                return False
    return True


def all_readings(code, text):
    """Every reading of a text, in the order of lists."""
    if text == "":
        return [[]]
    found = []
    for place, word in enumerate(code):
        if text.startswith(word):
            found.extend([place] + more for more in all_readings(code, text[len(word):]))
    return sorted(found)


def too_many(letters, lengths):
    """Whether at some count of letters more texts are begun than there are."""
    for count in range(max(lengths, default=0) + 1):
        begun = sum([letters ** (count - length) for length in lengths if length <= count])
        if begun > letters ** count:
            return True
    return False
