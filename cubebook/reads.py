"""Reading a table for a question."""

from cubebook.apart import apart
from cubebook.errors import NoGrain
from cubebook.grains import coarsest
from cubebook.ladders import line_at
from cubebook.picks import picked_everywhere
from cubebook.tables import goes_along, merged_along


# Values without picked finest values beneath them are left out, so their cells are not read.
def picked_lifts(ladder, level, other, chosen):
    return dict([(line_at(line, level), line_at(line, other)) for line in ladder if line[0] in chosen])


def picked_ways(ladders, kept, grain, picks):
    chosen = picked_everywhere(ladders, picks)
    return [picked_lifts(ladder, kept[axis], grain[axis], chosen[axis]) for axis, ladder in enumerate(ladders)]


def read(ladders, table, kept, grain, picks):
    if apart(ladders, kept, grain, picks) is not None:
        raise NoGrain("the table does not answer the question")
    return merged_along(picked_ways(ladders, kept, grain, picks), table)


# What is read hangs on the picks alone, not on the question's grain, so any grain would do here.
def cells_picked(ladders, table, kept, picks):
    ways = picked_ways(ladders, kept, coarsest(ladders), picks)
    return [(key, cell) for key, cell in table if goes_along(ways, key)]


def cells_read(ladders, table, kept, picks):
    return len(cells_picked(ladders, table, kept, picks))
