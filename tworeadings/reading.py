"""The readings of a text: one of them, how many there are, and each by its count."""

from tworeadings.answers import Reading, Stuck
from tworeadings.codes import LETTERS, are_places, check_code, count_below, grouped, is_place, joined
from tworeadings.codes import standing, unrolled
from tworeadings.errors import BadNumber, BadPlaces, BadText, NoReading


def check_asked(code, text):
    check_code(code)
    if not isinstance(text, str) or text.lstrip(LETTERS) != "":
        raise BadText("no text of letters")


def chains_to_marks(groups, text):
    chains = {0: None}
    for mark in range(len(text)):
        if mark in chains:
            for behind, places in standing(groups, text, mark):
                if behind not in chains:
                    chains[behind] = (places[0], chains[mark])
    return chains


def read(code, text):
    check_asked(code, text)
    chains = chains_to_marks(grouped(code), text)
    if len(text) in chains:
        return Reading(unrolled(chains[len(text)]))
    return Stuck(sorted(chains))


def ways_from_marks(groups, text, kept):
    # How many readings there are of what is behind each mark. The counts get as long as the
    # text, so those that are more than so many marks back are let go.
    ways = {len(text): 1}
    for mark in range(len(text) - 1, -1, -1):
        ways[mark] = sum([len(places) * ways[behind] for behind, places in standing(groups, text, mark)])
        ways.pop(mark + kept, None)
    return ways


def how_many(code, text):
    check_asked(code, text)
    groups = grouped(code)
    return ways_from_marks(groups, text, max(groups, default=1))[0]


def ways_if_any(groups, text):
    ways = ways_from_marks(groups, text, len(text) + 1)
    if ways[0] == 0:
        raise NoReading("the text has no reading")
    return ways


def choices_at(groups, text, ways, mark):
    return [(places, ways[behind]) for behind, places in standing(groups, text, mark)]


def readings_ahead(choices, place):
    # How many readings go on at this mark with a lesser place.
    return sum([count_below(places, place) * ways for places, ways in choices])


def place_chosen(choices, count, number):
    # Halving, for a word may stand at very many places: the greatest place with no more
    # readings ahead of it is the one at which the reading of this count goes on.
    low = 0
    high = count
    while high - low > 1:
        middle = (low + high) // 2
        if readings_ahead(choices, middle) <= number:
            low = middle
        else:
            high = middle
    return low


def told(code, text, number):
    check_asked(code, text)
    groups = grouped(code)
    ways = ways_if_any(groups, text)
    # Readings are counted as places are: from 0 on.
    if not is_place(number, ways[0]):
        raise BadNumber("no count of a reading")
    places = []
    mark = 0
    while mark < len(text):
        choices = choices_at(groups, text, ways, mark)
        place = place_chosen(choices, len(code), number)
        number = number - readings_ahead(choices, place)
        places.append(place)
        mark = mark + len(code[place])
    return places


def number_of(code, text, places):
    check_asked(code, text)
    groups = grouped(code)
    ways = ways_if_any(groups, text)
    if not are_places(places, len(code)) or joined(code, places) != text:
        raise BadPlaces("no reading of the text")
    number = 0
    mark = 0
    for place in places:
        number = number + readings_ahead(choices_at(groups, text, ways, mark), place)
        mark = mark + len(code[place])
    return number
