"""Ladders: lines of a finest value and its parents, level by level."""

from cubebook.orders import in_order
from cubebook.words import is_value

LONGEST_LINE = 4
MOST_LINES = 40


def is_line(thing):
    if not isinstance(thing, tuple):
        return False
    if len(thing) < 1 or len(thing) > LONGEST_LINE:
        return False
    return all([is_value(value) for value in thing])


# How many lines there may be is asked apart from this: a line too many is refused otherwise than one that
# does not fit.
def go_together(lines):
    if not all([is_line(line) for line in lines]):
        return False
    seen = {}
    finest_seen = {}
    for line in lines:
        if len(line) != len(lines[0]) or line[0] in finest_seen:
            return False
        finest_seen[line[0]] = True
        for level, value in enumerate(line):
            later = line[level + 1:]
            if seen.setdefault((level, value), later) != later:
                return False
    return True


def is_ladder(thing):
    if not isinstance(thing, list):
        return False
    if len(thing) < 1 or len(thing) > MOST_LINES:
        return False
    return go_together(thing)


def whole_of(ladder):
    return len(ladder[0])


def line_at(line, level):
    return line[level] if level < len(line) else None


# Values by themselves are no keys, so each is put in order as a key of its own.
def values_in_order(values):
    return [key[0] for key in in_order([(value,) for value in values])]


def values_at(ladder, level):
    return values_in_order([line_at(line, level) for line in ladder])


def up(ladder, value, level):
    return lifts(ladder, 0, level)[value]


# The other level is no finer than the first one: a value has one value above it, but several beneath.
def lifts(ladder, level, other):
    return dict([(line_at(line, level), line_at(line, other)) for line in ladder])


def beneath(ladder, level, value):
    # Python holds True and 1 for the same; here a truth is no value, so nothing lies beneath it.
    if value is not None and not is_value(value):
        return []
    return values_in_order([line[0] for line in ladder if line_at(line, level) == value])


# By way of beneath, since the thing may be of any kind, also a truth, or one that can't be the key of a dict.
def is_value_at(ladder, level, thing):
    return len(beneath(ladder, level, thing)) > 0
