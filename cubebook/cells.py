"""Cells: how many amounts, their sum, the least and the greatest one."""


def cell_of(amounts):
    return (len(amounts), sum(amounts), min(amounts), max(amounts))


def merged(one, other):
    return (one[0] + other[0], one[1] + other[1], min(one[2], other[2]), max(one[3], other[3]))


def taken(cell, amount):
    # The cell does not tell whether the least or the greatest amount stands there once more.
    if amount == cell[2] or amount == cell[3]:
        return None
    return (cell[0] - 1, cell[1] - amount, cell[2], cell[3])
