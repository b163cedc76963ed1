"""Picks: which finest values of an axis a question speaks of."""

from cubebook.grains import is_axis, is_level
from cubebook.ladders import line_at, values_in_order
from cubebook.words import is_value


def is_pick(ladders, thing):
    if not isinstance(thing, tuple) or len(thing) != 3:
        return False
    if not is_axis(ladders, thing[0]) or not is_level(ladders[thing[0]], thing[1]):
        return False
    if not isinstance(thing[2], (list, tuple)):
        return False
    return all([value is None or is_value(value) for value in thing[2]])


def is_picks(ladders, thing):
    return isinstance(thing, list) and all([is_pick(ladders, pick) for pick in thing])


def picked(ladders, picks, axis):
    lines = ladders[axis]
    for pick in picks:
        if pick[0] == axis:
            among = dict([(value, True) for value in pick[2]])
            lines = [line for line in lines if line_at(line, pick[1]) in among]
    return values_in_order([line[0] for line in lines])


def picked_everywhere(ladders, picks):
    return [picked(ladders, picks, axis) for axis in range(len(ladders))]
