"""The book: ladders, the rows that stand, and the tables of them that are kept."""

from cubebook.apart import apart
from cubebook.errors import NoGrain, NoLadder, NoPick, TooMuch
from cubebook.grains import finest, is_grain, ladder_on
from cubebook.ladders import is_ladder
from cubebook.picks import is_picks
from cubebook.pours import cells_changed, poured, tables_at
from cubebook.reads import cells_read, read
from cubebook.shifts import grown, regrouped
from cubebook.tables import table_of

MOST_LADDERS = 4
MOST_TABLES = 12


def are_ladders(thing):
    if not isinstance(thing, list):
        return False
    if len(thing) < 1 or len(thing) > MOST_LADDERS:
        return False
    return all([is_ladder(ladder) for ladder in thing])


class Book:
    def __init__(self, ladders):
        if not are_ladders(ladders):
            raise NoLadder("a book is made of one to four ladders")
        self.axes = [list(ladder) for ladder in ladders]
        self.standing = []
        self.tables = tables_at(self.axes, [], [finest(self.axes)])

    def ladders(self):
        return [list(ladder) for ladder in self.axes]

    def rows(self):
        return list(self.standing)

    def kept(self):
        return sorted(self.tables)

    def pour(self, changes):
        self.standing = poured(self.axes, self.standing, changes)
        return self.tables_renewed()

    def keep(self, grain):
        if not is_grain(self.axes, grain):
            raise NoGrain("no grain of the ladders")
        if grain not in self.tables:
            if len(self.tables) >= MOST_TABLES:
                raise TooMuch("twelve tables are kept at most")
            self.tables[grain] = table_of(self.axes, self.standing, grain)
        return len(self.tables[grain])

    def forget(self, grain):
        if not self.is_kept(grain) or grain == finest(self.axes):
            raise NoGrain("no kept grain that can be forgotten")
        self.tables.pop(grain)

    def regroup(self, axis, level, value, parent):
        self.put_ladder(axis, regrouped(ladder_on(self.axes, axis), level, value, parent))
        return self.tables_renewed()

    # No row has the new finest value yet, so all tables stay as they are.
    def grow(self, axis, line):
        self.put_ladder(axis, grown(ladder_on(self.axes, axis), line))

    def table(self, grain):
        if not self.is_kept(grain):
            raise NoGrain("no kept grain")
        return list(self.tables[grain])

    def plan(self, grain, picks):
        if not is_grain(self.axes, grain):
            raise NoGrain("no grain of the ladders")
        if not is_picks(self.axes, picks):
            raise NoPick("no picks of the ladders")
        best = None
        for kept in self.kept():
            if apart(self.axes, kept, grain, picks) is None:
                cells = cells_read(self.axes, self.tables[kept], kept, picks)
                # The grains come in order, so of several with as few cells the first one stays.
                if best is None or cells < best[1]:
                    best = (kept, cells)
        return best

    def answer(self, grain, picks):
        kept = self.plan(grain, picks)[0]
        return read(self.axes, self.tables[kept], kept, grain, picks)

    # Only what is a grain is looked for among the kept ones: (True,) is like (1,) to Python, and lists can't be keys.
    def is_kept(self, thing):
        return is_grain(self.axes, thing) and thing in self.tables

    def put_ladder(self, axis, ladder):
        self.axes = self.axes[:axis] + [ladder] + self.axes[axis + 1:]

    # All are made anew from the rows: a cell alone does not tell what is left of it, nor where its rows have gone.
    def tables_renewed(self):
        ahead = self.tables
        self.tables = tables_at(self.axes, self.standing, list(ahead))
        return cells_changed(ahead, self.tables)
