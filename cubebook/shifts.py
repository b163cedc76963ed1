"""Ladders with another parent for a value, or with a line more."""

from cubebook.errors import NoLadder, NoValue, TooMuch
from cubebook.ladders import MOST_LINES, go_together, is_value_at, whole_of
from cubebook.words import is_whole


def has_parents(ladder, level):
    return is_whole(level) and 0 <= level <= whole_of(ladder) - 2


def regrouped(ladder, level, value, parent):
    if not has_parents(ladder, level):
        raise NoValue("no level at which values have parents")
    if not is_value_at(ladder, level, value):
        raise NoValue("no such value at the level")
    if not is_value_at(ladder, level + 1, parent):
        raise NoValue("no such parent at the level above")
    # All lines with the parent are the same from there on, so the first of them tells the rest.
    rest = [line[level + 1:] for line in ladder if line[level + 1] == parent][0]
    return [line[:level + 1] + rest if line[level] == value else line for line in ladder]


def grown(ladder, line):
    lines = ladder + [line]
    if not go_together(lines):
        raise NoLadder("the line does not go with the others")
    if len(lines) > MOST_LINES:
        raise TooMuch("a ladder has forty lines at most")
    return lines
