"""Grains: one level for each ladder."""

from cubebook.errors import NoValue
from cubebook.ladders import whole_of
from cubebook.words import is_whole


def is_axis(ladders, thing):
    return is_whole(thing) and 0 <= thing < len(ladders)


def ladder_on(ladders, axis):
    if not is_axis(ladders, axis):
        raise NoValue("no such axis")
    return ladders[axis]


def is_level(ladder, thing):
    return is_whole(thing) and 0 <= thing <= whole_of(ladder)


def is_grain(ladders, thing):
    if not isinstance(thing, tuple) or len(thing) != len(ladders):
        return False
    return all([is_level(ladder, level) for ladder, level in zip(ladders, thing)])


def finest(ladders):
    return tuple([0 for ladder in ladders])


def coarsest(ladders):
    return tuple([whole_of(ladder) for ladder in ladders])


def as_fine(one, other):
    return all([level <= other_level for level, other_level in zip(one, other)])


def meet(one, other):
    return tuple([min(level, other_level) for level, other_level in zip(one, other)])


def join(one, other):
    return tuple([max(level, other_level) for level, other_level in zip(one, other)])


def all_grains(ladders):
    grains = [()]
    for ladder in ladders:
        longer = []
        for grain in grains:
            longer.extend([grain + (level,) for level in range(whole_of(ladder) + 1)])
        grains = longer
    return grains
