"""Whole numbers, words and values."""

LETTERS = "abcdefghijklmnopqrstuvwxyz"
FIGURES = "0123456789"
LONGEST_WORD = 12


def is_whole(thing):
    # Python counts a truth among its ints; here it is no whole number.
    return isinstance(thing, int) and not isinstance(thing, bool)


def is_word(thing):
    if not isinstance(thing, str):
        return False
    if len(thing) < 1 or len(thing) > LONGEST_WORD:
        return False
    return thing[0] in LETTERS and all([sign in LETTERS or sign in FIGURES for sign in thing])


def is_value(thing):
    return is_whole(thing) or is_word(thing)
