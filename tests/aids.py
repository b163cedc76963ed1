"""What several test files need: sample things, sample ladders, and the looks that each test holds answers against."""

import copy
import itertools
import random

from cubebook import errors

KINDS = [errors.NoLadder, errors.NoValue, errors.NoGrain, errors.NoPick, errors.NoRow, errors.NoSuch, errors.NoText,
         errors.TooMuch]

MANY = 10 ** 60 - 1


def nested(thing, depth, wrap):
    for step in range(depth):
        thing = wrap([thing])
    return thing


# Things of every kind that point 2 speaks of. None of them is a value, but for those of VALUES.
VALUES = [0, 1, -1, 7, MANY, -MANY, "a", "z9", "abcdefghijkl"]
NO_VALUES = [True, False, "", "A", "a b", "0", "1", "abcdefghijklm", "*", "a\n", [], (), [1], (1,), ["a"], ("a",),
             [[]], ((),), [None], (None,), [True], [[1], ("a", None)], nested(1, 8, list), nested("a", 8, tuple)]
ANY_THINGS = VALUES + [None] + NO_VALUES


# A ladder of each length. Values are whole numbers and words, some of them at several levels, lines in no order.
LADDERS = [
    [("b",), (10,), ("a",), (-3,), (9,)],
    [("tue", "w1"), (3, "w1"), ("mon", 2), (1, 2), ("wed", "w1"), (2, 5)],
    [("b", "x", 1), ("a", "x", 1), (5, 2, 1), (1, 7, "x"), (2, 7, "x"), ("x", "b", 1)],
    [(4, "k", 3, "all"), (1, 1, 1, 1), ("q", "k", 3, "all"), (2, 1, 1, 1), (3, 2, 1, 1), ("p", 9, "m", 1),
     (0, "j", 3, "all")],
]


# Every way to lay one to four of the sample ladders side by side would be too many: these have each length somewhere.
LADDER_SETS = [
    [LADDERS[0]], [LADDERS[1]], [LADDERS[2]], [LADDERS[3]],
    [LADDERS[1], LADDERS[2]], [LADDERS[3], LADDERS[0]],
    [LADDERS[0], LADDERS[1], LADDERS[2]],
    [LADDERS[1], LADDERS[0], LADDERS[2], LADDERS[1]],
]


def line_of(ladder, finest):
    return [line for line in ladder if line[0] == finest][0]


# A finest value's value at a level, straight from its line.
def at(ladder, finest, level):
    return (line_of(ladder, finest) + (None,))[level]


def rank(thing):
    return (0, 0) if thing is None else (1, thing) if isinstance(thing, int) else (2, thing)


def key_rank(key):
    return [rank(thing) for thing in key]


def sorted_values(things):
    return sorted(set(things), key=rank)


def sorted_keys(keys):
    return sorted(set(keys), key=key_rank)


def finest_values(ladder):
    return [line[0] for line in ladder]


def whole(ladder):
    return len(ladder[0])


def grains_of(ladders):
    return list(itertools.product(*[range(whole(ladder) + 1) for ladder in ladders]))


def is_picked(ladders, picks, axis, finest):
    return all(at(ladders[axis], finest, pick[1]) in list(pick[2]) for pick in picks if pick[0] == axis)


def key_is_picked(ladders, picks, key):
    return all(is_picked(ladders, picks, axis, finest) for axis, finest in enumerate(key))


def key_at(ladders, key, grain):
    return tuple(at(ladder, finest, level) for ladder, finest, level in zip(ladders, key, grain))


def cell_of(amounts):
    return (len(amounts), sum(amounts), min(amounts), max(amounts))


# The table of some rows at a grain, key by key.
def table_of(ladders, rows, grain):
    keys = [key_at(ladders, row[0], grain) for row in rows]
    return [(key, cell_of([row[1] for place, row in enumerate(rows) if keys[place] == key]))
            for key in sorted_keys(keys)]


def picked_rows(ladders, rows, picks):
    return [row for row in rows if key_is_picked(ladders, picks, row[0])]


def finest_keys(ladders):
    return list(itertools.product(*[finest_values(ladder) for ladder in ladders]))


# Whether a table of the kept grain answers, by a look at all pairs of keys of finest values.
def answers(ladders, kept, grain, picks):
    seen = {}
    for key in finest_keys(ladders):
        mark = key_at(ladders, key, grain) if key_is_picked(ladders, picks, key) else "not picked"
        if seen.setdefault(key_at(ladders, key, kept), mark) != mark:
            return False
    return True


def cells_read(ladders, rows, kept, picks):
    keys = {key_at(ladders, key, kept) for key in finest_keys(ladders) if key_is_picked(ladders, picks, key)}
    return len([key for key, cell in table_of(ladders, rows, kept) if key in keys])


def random_ladder(source, lines, length):
    count = lines
    names = ["v%d" % number for number in range(lines)] + list(range(-3, lines))
    levels = [source.sample(names, lines)]
    while len(levels) < length:
        count = source.randint(1, count)
        levels.append(source.sample(names, count))
    parents = [{value: source.choice(above) for value in level} for level, above in zip(levels, levels[1:])]
    ladder = []
    for finest in levels[0]:
        line = (finest,)
        for parent in parents:
            line += (parent[line[-1]],)
        ladder.append(line)
    return ladder


def random_ladders(source, most_lines=6):
    return [random_ladder(source, source.randint(1, most_lines), source.randint(1, 4))
            for axis in range(source.randint(1, 4))]


def random_picks(source, ladders, most=4):
    picks = []
    for number in range(source.randint(0, most)):
        axis = source.randrange(len(ladders))
        level = source.randint(0, whole(ladders[axis]))
        values = sorted_values([at(ladders[axis], finest, level) for finest in finest_values(ladders[axis])])
        values = [value for value in values if source.random() < 0.7] + source.choice([[], ["nowhere"], [None, 99]])
        picks.append((axis, level, source.choice([list, tuple])(values)))
    return picks


def random_grain(source, ladders):
    return tuple(source.randint(0, whole(ladder)) for ladder in ladders)


def random_key(source, ladders):
    return tuple(source.choice(ladder)[0] for ladder in ladders)


def random_rows(source, ladders, many):
    return [(random_key(source, ladders), source.choice([0, 1, -1, 5, -5, 7, MANY, source.randint(-99, 99)]))
            for number in range(many)]


# Asserts for a TestCase: an answer of just that kind, a refusal of just that kind, and nothing handed in changed.
class Asserts:
    def is_truth(self, truth, answer):
        self.assertIs(answer, truth)

    def asked(self, ask, *handed):
        ahead = copy.deepcopy(handed)
        answer = ask(*handed)
        self.assertEqual(handed, ahead)
        return answer

    def refused(self, kind, ask, *handed):
        ahead = copy.deepcopy(handed)
        caught = None
        try:
            ask(*handed)
        except errors.CubeError as error:
            caught = error
        self.assertIsNotNone(caught, f"{handed!r} is not refused")
        self.assertEqual([other for other in KINDS if isinstance(caught, other)], [kind], repr(handed))
        self.assertIsInstance(caught, ValueError)
        self.assertEqual(handed, ahead)

    # What is told stays as it is whatever is done to an earlier answer.
    def own_each_time(self, ask, *handed):
        wanted = copy.deepcopy(ask(*handed))
        spoil(ask(*handed))
        self.assertEqual(ask(*handed), wanted)


def spoil(told):
    if isinstance(told, (list, tuple)):
        for part in told:
            spoil(part)
    if isinstance(told, list):
        told.append("spoiled")
        told.reverse()


# All lists within what is told, to see that none stands at two places.
def lists_within(told):
    found = [told] if isinstance(told, list) else []
    if isinstance(told, (list, tuple)):
        for part in told:
            found += lists_within(part)
    return found


def source_of(number):
    return random.Random(number)
