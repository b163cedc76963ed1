"""The desk: a book that is spoken to by rows of text."""

from cubebook.book import MOST_LADDERS, Book
from cubebook.errors import NoLadder, NoText, TooMuch
from cubebook.ladders import is_ladder
from cubebook.texts import (read_grain, read_line, read_pick, read_row, read_value, read_whole, show_cell, show_grain,
                            show_key)
from cubebook.totals import reading_cells, total_of


def parts_as_many(text, many):
    parts = text.split(" ")
    if len(parts) != many:
        raise NoText("other parts are asked for")
    return parts


def read_change(text):
    if not text.startswith("+ ") and not text.startswith("- "):
        raise NoText("no change")
    row = read_row(text[2:])
    return (text[0], row[0], row[1])


def read_picks(parts):
    return [read_pick(part) for part in parts]


# Each of these reads the whole rest of a row ahead of what it asks of the book, so that NoText goes ahead of all else.
def say_pour(book, text):
    changes = [read_change(part) for part in text.split("; ")]
    many = len(book.pour(changes))
    return f"{many} changed"


def say_keep(book, text):
    many = book.keep(read_grain(text))
    return f"{many} cells"


def say_forget(book, text):
    book.forget(read_grain(text))
    return "ok"


def say_move(book, text):
    parts = parts_as_many(text, 4)
    axis = read_whole(parts[0])
    level = read_whole(parts[1])
    value = read_value(parts[2])
    parent = read_value(parts[3])
    many = len(book.regroup(axis, level, value, parent))
    return f"{many} changed"


def say_grow(book, text):
    parts = parts_as_many(text, 2)
    axis = read_whole(parts[0])
    line = read_line(parts[1])
    book.grow(axis, line)
    return "ok"


def show_line(key, cell):
    return show_key(key) + ": " + show_cell(cell)


def say_ask(book, text):
    parts = text.split(" ")
    grain = read_grain(parts[0])
    answer = book.answer(grain, read_picks(parts[1:]))
    if answer == []:
        return "none"
    return "; ".join([show_line(key, cell) for key, cell in answer])


def say_plan(book, text):
    parts = text.split(" ")
    grain = read_grain(parts[0])
    plan = book.plan(grain, read_picks(parts[1:]))
    return show_grain(plan[0]) + " " + str(plan[1])


def say_total(book, text):
    parts = text.split(" ")
    axis = read_whole(parts[0])
    total = total_of(book, axis, read_picks(parts[1:]))
    return str(total[0]) + " " + str(total[1])


def say_reading(book, text):
    parts = text.split(" ")
    axis = read_whole(parts[0])
    many = reading_cells(book, axis, read_picks(parts[1:]))
    return f"{many} cells"


SAYINGS = {
    "pour": say_pour,
    "keep": say_keep,
    "forget": say_forget,
    "move": say_move,
    "grow": say_grow,
    "ask": say_ask,
    "plan": say_plan,
    "total": say_total,
    "reading": say_reading,
}


class Desk:
    def __init__(self):
        self.axes = []
        self.book = None

    def say(self, row):
        if not isinstance(row, str):
            raise NoText("no text")
        parts = row.partition(" ")
        if self.book is not None:
            if parts[0] not in SAYINGS:
                raise NoText("no such row")
            return SAYINGS[parts[0]](self.book, parts[2])
        if row == "open":
            return self.make_book()
        if parts[0] == "axis":
            return self.add_axis(parts[2])
        raise NoText("no such row as long as there is no book")

    def add_axis(self, text):
        ladder = [read_line(part) for part in text.split(" ")]
        if not is_ladder(ladder):
            raise NoLadder("these lines are no ladder")
        if len(self.axes) >= MOST_LADDERS:
            raise TooMuch("there are four axes at most")
        self.axes.append(ladder)
        return "ok"

    def make_book(self):
        self.book = Book(self.axes)
        return "ok"
