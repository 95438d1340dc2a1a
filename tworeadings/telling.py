"""Whether a text can have two readings, and whether a word begins another one."""

from tworeadings.answers import Apart, Begins, Clash, Tails
from tworeadings.codes import check_code, count_below, grouped, in_order, standing, unrolled, words_at

EMPTY = 0


class Rest:
    # Two readings with one text but for what stands behind the mark in the word at the place:
    # the one ahead has it, the one behind lacks it.
    def __init__(self, place, mark, ahead, behind):
        self.place = place
        self.mark = mark
        self.ahead = ahead
        self.behind = behind


def rest_numbers(code):
    # Equal rests get one number, so that none is gone through twice. Their texts are not kept
    # for it: in a long word those of all marks together are too great.
    numbers = {}
    rows = []
    for word in code:
        row = [EMPTY] * (len(word) + 1)
        for mark in range(len(word) - 1, -1, -1):
            row[mark] = numbers.setdefault((row[mark + 1], word[mark]), len(numbers) + 1)
        rows.append(row)
    return rows


def first_rests(code, groups, place):
    found = []
    for mark, places in standing(groups, code[place], 0):
        # A word begins itself, which says nothing, but an equal one at a place ahead counts.
        if places[0] != place:
            found.append(Rest(place, mark, (place, None), (places[0], None)))
    return found


def places_begun(words, order, tail):
    # In the order of texts all that begins with the tail stands together.
    turn = count_below(words, tail)
    found = []
    while turn < len(words) and words[turn].startswith(tail):
        found.append(order[turn])
        turn = turn + 1
    return found


def rests_behind(code, groups, words, order, rest):
    word = code[rest.place]
    found = []
    for mark, places in standing(groups, word, rest.mark):
        found.append(Rest(rest.place, mark, rest.ahead, (places[0], rest.behind)))
    tail = word[rest.mark:]
    for place in places_begun(words, order, tail):
        # The reading that was behind gets the longer word, so the two change sides.
        found.append(Rest(place, len(tail), (place, rest.behind), rest.ahead))
    return found


def take_new(known, numbers, rests):
    fresh = []
    for rest in rests:
        number = numbers[rest.place][rest.mark]
        if number not in known:
            known[number] = rest
            fresh.append(rest)
    return fresh


def all_rests(code):
    groups = grouped(code)
    order = in_order(code)
    words = words_at(code, order)
    numbers = rest_numbers(code)
    known = {}
    waiting = []
    for place in range(len(code)):
        waiting.extend(take_new(known, numbers, first_rests(code, groups, place)))
    turn = 0
    # An empty rest ends it: there the two readings have one text.
    while turn < len(waiting) and EMPTY not in known:
        rests = rests_behind(code, groups, words, order, waiting[turn])
        waiting.extend(take_new(known, numbers, rests))
        turn = turn + 1
    return known


def once(code):
    check_code(code)
    rests = all_rests(code)
    if EMPTY in rests:
        return Clash(unrolled(rests[EMPTY].behind), unrolled(rests[EMPTY].ahead))
    return Tails([code[rest.place][rest.mark:] for rest in rests.values()])


def begins(code):
    check_code(code)
    order = in_order(code)
    # If a word begins any other one, it begins the next one in the order of texts.
    for one, other in zip(order, order[1:]):
        if code[other].startswith(code[one]):
            return Begins(one, other)
    return Apart(order)
