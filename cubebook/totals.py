"""Totals of picks, read along an axis by adding and taking away the fewest cells."""

from cubebook.apart import apart
from cubebook.errors import NoPick
from cubebook.flows import fewest, fewest_paths
from cubebook.grains import coarsest, ladder_on
from cubebook.ladders import values_at
from cubebook.picks import is_picks, picked
from cubebook.reads import cells_picked


def cells_by_value(ladders, table, grain, axis, beside):
    cells = {}
    for key, cell in cells_picked(ladders, table, grain, beside):
        cells.setdefault(key[axis], []).append(cell)
    return cells


# The cells of a pair (level, value) stand beside their grain: their number is what the pair costs, they themselves
# are what the total is read from.
def best_reads(book, axis, picks):
    ladders = book.ladders()
    beside = [pick for pick in picks if pick[0] != axis]
    best = {}
    for grain in book.kept():
        if apart(ladders, grain, coarsest(ladders), beside) is None:
            cells = cells_by_value(ladders, book.table(grain), grain, axis, beside)
            for value in values_at(ladders[axis], grain[axis]):
                pair = (grain[axis], value)
                found = cells.get(value, [])
                if pair not in best or len(found) < len(best[pair][1]):
                    best[pair] = (grain, found)
    return best


def costs_of(best):
    return dict([(pair, len(best[pair][1])) for pair in best])


# The axis is looked at ahead of the picks, since NoValue goes ahead of NoPick.
def looked_up(book, axis, picks):
    ladders = book.ladders()
    ladder = ladder_on(ladders, axis)
    if not is_picks(ladders, picks):
        raise NoPick("no picks of the ladders")
    return (ladder, picked(ladders, picks, axis), best_reads(book, axis, picks))


def signed_reads(book, axis, picks):
    found = looked_up(book, axis, picks)
    best = found[2]
    signs = fewest(found[0], costs_of(best), found[1])
    return [(sign, value, best[(level, value)][0], best[(level, value)][1]) for sign, level, value in signs]


def reading(book, axis, picks):
    return [(sign, grain, value) for sign, value, grain, cells in signed_reads(book, axis, picks)]


def reading_cells(book, axis, picks):
    return sum([len(cells) for sign, value, grain, cells in signed_reads(book, axis, picks)])


def reading_paths(book, axis, picks):
    found = looked_up(book, axis, picks)
    return fewest_paths(found[0], costs_of(found[2]), found[1])


def total_of(book, axis, picks):
    many = 0
    amount = 0
    for sign, value, grain, cells in signed_reads(book, axis, picks):
        for cell in cells:
            many = many + sign * cell[0]
            amount = amount + sign * cell[1]
    return (many, amount)
