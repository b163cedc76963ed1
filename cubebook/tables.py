"""Tables: the cells of rows at a grain, in order of their keys."""

from cubebook.cells import cell_of, merged
from cubebook.errors import NoGrain
from cubebook.grains import as_fine, finest
from cubebook.ladders import lifts, up
from cubebook.orders import in_order


def key_at(ladders, key, grain):
    return tuple([up(ladder, key[axis], grain[axis]) for axis, ladder in enumerate(ladders)])


# A dict for each axis, made once, so that no key is looked for among the lines again.
def ways_up(ladders, grain, to):
    return [lifts(ladder, grain[axis], to[axis]) for axis, ladder in enumerate(ladders)]


def goes_along(ways, key):
    return all([value in way for way, value in zip(ways, key)])


# Keys that do not go along the ways are left out: so to read a part of a table is the same as to roll all of it.
def merged_along(ways, table):
    cells = {}
    for key, cell in table:
        if goes_along(ways, key):
            there = tuple([way[value] for way, value in zip(ways, key)])
            cells[there] = merged(cells[there], cell) if there in cells else cell
    return [(key, cells[key]) for key in in_order(list(cells))]


def table_of(ladders, rows, grain):
    single = [(key, cell_of([amount])) for key, amount in rows]
    return merged_along(ways_up(ladders, finest(ladders), grain), single)


def rolled(ladders, table, grain, to):
    if not as_fine(grain, to):
        raise NoGrain("a table is rolled to a grain that is no finer")
    return merged_along(ways_up(ladders, grain, to), table)
