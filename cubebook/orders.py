"""The order of values and of keys."""

from cubebook.words import is_whole


# The leading number parts None, whole numbers and words, so a number is never compared with a text.
# Python's order of texts is the one asked for: figures come before small letters, a begin before what is longer.
def value_rank(thing):
    if thing is None:
        return (0, 0)
    if is_whole(thing):
        return (1, thing)
    return (2, thing)


def key_rank(key):
    return tuple([value_rank(thing) for thing in key])


def value_before(one, other):
    return value_rank(one) < value_rank(other)


def key_before(one, other):
    return key_rank(one) < key_rank(other)


def in_order(keys):
    told = []
    for key in sorted(keys, key=key_rank):
        if not told or told[-1] != key:
            told.append(key)
    return told
