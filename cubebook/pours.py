"""Changes of rows, and what cells of tables change by them."""

from cubebook.errors import NoRow, NoSuch, TooMuch
from cubebook.ladders import is_value_at
from cubebook.orders import in_order, key_rank
from cubebook.tables import table_of
from cubebook.words import is_whole

MOST_ROWS = 200


def is_finest_key(ladders, thing):
    if not isinstance(thing, tuple) or len(thing) != len(ladders):
        return False
    return all([is_value_at(ladder, 0, value) for ladder, value in zip(ladders, thing)])


def is_change(ladders, thing):
    if not isinstance(thing, tuple) or len(thing) != 3:
        return False
    if thing[0] != "+" and thing[0] != "-":
        return False
    return is_finest_key(ladders, thing[1]) and is_whole(thing[2])


# How often each row stands.
def counts_of(rows):
    counts = {}
    for row in rows:
        counts[row] = counts.get(row, 0) + 1
    return counts


def row_rank(row):
    return (key_rank(row[0]), row[1])


def rows_in_order(counts):
    rows = []
    for row in sorted(list(counts), key=row_rank):
        rows.extend([row] * counts[row])
    return rows


# How many rows more there are by one change, which is done to the counts.
def count_change(counts, many, sign, row):
    if sign == "+":
        if many >= MOST_ROWS:
            raise TooMuch("two hundred rows stand at most")
        counts[row] = counts.get(row, 0) + 1
        return 1
    if counts.get(row, 0) < 1:
        raise NoSuch("no such row stands")
    counts[row] = counts[row] - 1
    return -1


# The rows behind all changes; those handed in stay, so a change that is refused leaves all as it was.
def poured(ladders, rows, changes):
    counts = counts_of(rows)
    many = len(rows)
    for change in changes:
        if not is_change(ladders, change):
            raise NoRow("no change of a row")
        many = many + count_change(counts, many, change[0], (change[1], change[2]))
    return rows_in_order(counts)


# The tables of the rows, by their grains.
def tables_at(ladders, rows, grains):
    return dict([(grain, table_of(ladders, rows, grain)) for grain in grains])


def keys_changed(ahead, behind):
    cells_ahead = dict(ahead)
    cells_behind = dict(behind)
    keys = [key for key in cells_ahead if cells_behind.get(key) != cells_ahead[key]]
    return in_order(keys + [key for key in cells_behind if key not in cells_ahead])


# What cells came, went or are not what they were, by the tables of the same grains ahead and behind.
def cells_changed(ahead, behind):
    changed = []
    for grain in sorted(ahead):
        changed.extend([(grain, key) for key in keys_changed(ahead[grain], behind[grain])])
    return changed
