"""Words of given lengths, none of which begins another one."""

from tworeadings.answers import Full, Words, are_lengths, is_count
from tworeadings.codes import LETTERS, in_order
from tworeadings.errors import BadLengths

LONGEST = 100


def check_lengths(letters, lengths):
    if not is_count(letters):
        raise BadLengths("no count of letters from 1 to 26")
    if not are_lengths(lengths) or max(lengths, default=1) > LONGEST:
        raise BadLengths("no list of whole numbers from 1 to 100")


def first_free(word, letters):
    # What the first text behind all that begin with the word begins with, or None if it was
    # the last one. Last letters have none behind them, so the letter ahead of them is raised.
    kept = word.rstrip(LETTERS[letters - 1])
    if kept == "":
        return None
    return kept[:-1] + LETTERS[LETTERS.index(kept[-1]) + 1]


def of_lengths(letters, lengths):
    check_lengths(letters, lengths)
    words = [""] * len(lengths)
    free = ""
    # Short words first, each as far ahead as can be, leave no gap: so where none is free
    # for a word, the words ahead of it begin all texts there are.
    for place in in_order(lengths):
        if free is None:
            return Full()
        words[place] = free.ljust(lengths[place], LETTERS[0])
        free = first_free(words[place], letters)
    return Words(words)
