"""Changes of rows, and what cells of tables change by them."""

from cubebook.errors import NoRow, NoSuch, TooMuch
from cubebook.ladders import is_value_at
from cubebook.orders import in_order, key_rank
from cubebook.tables import table_of
from cubebook.words import is_whole

MOST_ROWS = 200


def is_finest_key(ladders, thing):
    if not isinstance(thing, tuple) or len(thing) != len(ladders):
        return False
    return all([is_value_at(ladder, 0, value) for ladder, value in zip(ladders, thing)])


def is_change(ladders, thing):
    if not isinstance(thing, tuple) or len(thing) != 3:
        return False
    if thing[0] != "+" and thing[0] != "-":
        return False
    return is_finest_key(ladders, thing[1]) and is_whole(thing[2])


def row_rank(row):
    return (key_rank(row[0]), row[1])


def put_in(standing, row):
    if len(standing) >= MOST_ROWS:
        raise TooMuch("two hundred rows stand at most")
    standing.append(row)


def take_out(standing, row):
    if row not in standing:
        raise NoSuch("no such row stands")
    standing.remove(row)


# All is done to a list beside: the rows handed in stay, so a change that is refused leaves all as it was.
def poured(ladders, rows, changes):
    standing = list(rows)
    for change in changes:
        if not is_change(ladders, change):
            raise NoRow("no change of a row")
        if change[0] == "+":
            put_in(standing, (change[1], change[2]))
        else:
            take_out(standing, (change[1], change[2]))
    return sorted(standing, key=row_rank)


def tables_at(ladders, rows, grains):
    return dict([(grain, table_of(ladders, rows, grain)) for grain in grains])


def keys_changed(ahead, behind):
    cells_ahead = dict(ahead)
    cells_behind = dict(behind)
    keys = [key for key in cells_ahead if cells_behind.get(key) != cells_ahead[key]]
    return in_order(keys + [key for key in cells_behind if key not in cells_ahead])


# By the tables alone, not by the changes: what goes out and comes in again in one pouring is no change.
def cells_changed(ahead, behind):
    changed = []
    for grain in sorted(ahead):
        changed.extend([(grain, key) for key in keys_changed(ahead[grain], behind[grain])])
    return changed
