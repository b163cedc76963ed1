"""Keys, lines, grains, picks, rows and cells, written as texts and read again."""

from cubebook.errors import NoText
from cubebook.words import FIGURES, is_word

MOST_FIGURES = 60
# Of a line as of a key and a grain: a line has four values at most, and there are four ladders at most.
MOST_PARTS = 4


def show_value(thing):
    return "*" if thing is None else str(thing)


def show_key(key):
    return "/".join([show_value(thing) for thing in key])


def show_grain(grain):
    return "/".join([str(level) for level in grain])


def show_pick(pick):
    axis = pick[0]
    level = pick[1]
    values = ",".join([show_value(thing) for thing in pick[2]])
    return f"{axis}@{level}={values}"


def show_row(row):
    key = show_key(row[0])
    amount = row[1]
    return f"{key} {amount}"


def show_cell(cell):
    return " ".join([str(number) for number in cell])


def is_written_whole(text):
    figures = text[1:] if text.startswith("-") else text
    if len(figures) < 1 or len(figures) > MOST_FIGURES:
        return False
    if figures.startswith("0") and text != "0":
        return False
    return all([sign in FIGURES for sign in figures])


def read_whole(text):
    if not isinstance(text, str) or not is_written_whole(text):
        raise NoText("no whole number")
    return int(text)


def read_place(text):
    number = read_whole(text)
    if number < 0:
        raise NoText("a number from 0 on is asked for")
    return number


def read_value(text):
    return text if is_word(text) else read_whole(text)


def read_value_or_whole(text):
    return None if text == "*" else read_value(text)


def parts_of(text, sign):
    if not isinstance(text, str):
        raise NoText("no text")
    return text.split(sign)


def few_parts_of(text):
    parts = parts_of(text, "/")
    if len(parts) > MOST_PARTS:
        raise NoText("too many parts")
    return parts


def read_key(text):
    return tuple([read_value_or_whole(part) for part in few_parts_of(text)])


def read_line(text):
    return tuple([read_value(part) for part in few_parts_of(text)])


def read_grain(text):
    return tuple([read_place(part) for part in few_parts_of(text)])


def read_pick(text):
    sides = parts_of(text, "=")
    places = sides[0].split("@")
    if len(sides) != 2 or len(places) != 2:
        raise NoText("no pick")
    values = [read_value_or_whole(part) for part in sides[1].split(",")]
    return (read_place(places[0]), read_place(places[1]), values)


def read_row(text):
    sides = parts_of(text, " ")
    if len(sides) != 2:
        raise NoText("no row")
    return (read_line(sides[0]), read_whole(sides[1]))
