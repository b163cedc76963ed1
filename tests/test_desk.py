import unittest

import aids
from aids import (ANY_THINGS, Asserts, random_grain, random_key, random_ladders, random_picks, random_rows, source_of,
                  whole)
from cubebook.book import Book
from cubebook.desk import Desk
from cubebook.errors import CubeError, NoGrain, NoLadder, NoPick, NoRow, NoSuch, NoText, NoValue, TooMuch
from cubebook.totals import reading_cells, total_of

DAYS = "axis mon/w1 tue/w1 wed/w2 7/w2"
SHOPS = "axis a/t1/x b/t1/x c/t2/y"
ROWS = "pour + mon/a 3; + mon/b 4; + tue/a -5; + wed/c 0; + 7/b 9; + 7/b 9"
LADDERS = [[("mon", "w1"), ("tue", "w1"), ("wed", "w2"), (7, "w2")], [("a", "t1", "x"), ("b", "t1", "x"), ("c", "t2", "y")]]

# Rows that ask and change nothing: what they answer tells how a desk with a book stands.
QUESTIONS = ["ask 0/0", "ask 1/1", "ask 2/3", "plan 1/3", "plan 2/3", "plan 0/0", "total 0 1@0=a", "reading 0", "reading 1"]
GOOD_ROWS = ["pour + mon/a 3", "keep 1/1", "forget 1/1", "move 0 0 mon w2", "grow 0 sun/w1", "ask 0/0", "ask 0/0 0@0=mon",
             "plan 0/0", "total 0", "reading 0"]


def opened():
    desk = Desk()
    for row in [DAYS, SHOPS, "open", "keep 1/1", "keep 1/3", ROWS]:
        desk.say(row)
    return desk


def outcome(desk, row):
    try:
        return desk.say(row)
    except CubeError as error:
        return type(error)


def state_of(desk):
    return [outcome(desk, row) for row in QUESTIONS]


def written(thing):
    return "*" if thing is None else str(thing)


def pick_row(picks):
    return "".join(" %d@%d=%s" % (axis, level, ",".join(written(value) for value in values))
                   for axis, level, values in picks)


class DeskAsserts(Asserts):
    def answers(self, desk, row, wanted):
        told = desk.say(row)
        self.assertIs(type(told), str)
        self.assertEqual(told, wanted)

    def refused_row(self, desk, kind, row):
        ahead = state_of(desk)
        self.refused(kind, desk.say, row)
        self.assertEqual(state_of(desk), ahead)


class AheadTest(unittest.TestCase, DeskAsserts):
    def test_axes_and_the_book(self):
        desk = Desk()
        for row in [DAYS, SHOPS, "open"]:
            self.answers(desk, row, "ok")
        self.answers(desk, "ask 2/3", "none")

    def test_rows_that_need_a_book(self):
        desk = Desk()
        for row in GOOD_ROWS:
            self.refused(NoText, desk.say, row)
        desk.say(DAYS)
        desk.say(SHOPS)
        for row in GOOD_ROWS:
            self.refused(NoText, desk.say, row)
        self.answers(desk, "open", "ok")
        self.answers(desk, "pour + mon/a 3", "1 changed")

    def test_rows_that_need_that_there_is_none(self):
        desk = opened()
        for row in ["open", DAYS, "axis a", "axis a a", "axis", "axis A", "axis *"]:
            self.refused_row(desk, NoText, row)

    def test_no_ladders(self):
        desk = Desk()
        self.refused(NoLadder, desk.say, "open")
        self.refused(NoText, desk.say, "ask 0")
        self.answers(desk, "axis a", "ok")
        self.answers(desk, "open", "ok")
        self.answers(desk, "keep 1", "0 cells")

    def test_what_is_no_ladder(self):
        desk = Desk()
        for row in ["axis a a", "axis a/1 b", "axis a/x/1 b/x/2", "axis a/1 a/2",
                    "axis " + " ".join(str(number) for number in range(41))]:
            self.refused(NoLadder, desk.say, row)
        self.refused(NoLadder, desk.say, "open")
        self.answers(desk, "axis " + " ".join(str(number) for number in range(40)), "ok")

    def test_lines_that_are_not_read(self):
        desk = Desk()
        for row in ["axis", "axis ", "axis  a", "axis a ", "axis a  b", "axis *", "axis a/*", "axis a/b/c/d/e", "axis A",
                    "axis a/", "axis /a", "axis a,b", "axis a\n", "axis a\tb", "axis 01", "axis -0", " axis a", "Axis a",
                    "axisa", "axis a; b", "axis " + "1" * 61, "axis a a *", "axis a/1 b A"]:
            self.refused(NoText, desk.say, row)
        self.refused(NoLadder, desk.say, "open")

    def test_a_fifth_axis(self):
        desk = Desk()
        for number in range(4):
            self.answers(desk, "axis a/w b/w", "ok")
        self.refused(TooMuch, desk.say, "axis a/w b/w")
        self.refused(NoLadder, desk.say, "axis a/w a/w")
        self.refused(NoText, desk.say, "axis a/w a/*")
        self.answers(desk, "open", "ok")
        self.answers(desk, "keep 1/1/1/1", "0 cells")

    def test_ways_to_misspell_open(self):
        for desk in [Desk(), opened()]:
            for row in ["open ", " open", "Open", "open\n", "open a", "opened", "ope"]:
                self.refused(NoText, desk.say, row)


class RowsTest(unittest.TestCase, DeskAsserts):
    def test_what_is_no_row(self):
        for desk in [Desk(), opened()]:
            for thing in ANY_THINGS + ["", " ", "\n", "pour", "keep", "forget", "move", "grow", "ask", "plan", "total",
                                       "reading", "close", "rows", "POUR + mon/a 3", "help", "*"]:
                self.refused_row(desk, NoText, thing)

    def test_pour(self):
        desk = opened()
        self.answers(desk, "pour + mon/a 3; - tue/a -5", "4 changed")
        self.answers(desk, "pour + mon/a 3; - mon/a 3", "0 changed")
        self.answers(desk, "pour - wed/c 0", "3 changed")
        self.answers(desk, "ask 2/3", "*/*: 5 28 3 9")
        for row in ["pour ", "pour  + mon/a 3", "pour + mon/a 3 ", "pour +mon/a 3", "pour + mon/a", "pour + 3",
                    "pour + mon/a 3;", "pour + mon/a 3; ", "pour + mon/a 3;+ mon/a 3", "pour + mon/a 3;  + mon/a 3",
                    "pour + mon/a 3 ; + mon/a 3", "pour * mon/a 3", "pour mon/a 3", "pour + mon/* 3", "pour + mon/a 03",
                    "pour + mon/a -0", "pour + mon/a +3", "pour ++ mon/a 3", "pour + mon/a 3, + mon/a 3", "pour; + mon/a 3",
                    "pour + mon/a/b/c/d 3", "pour + mon/a " + "1" * 61, "pour + mon/a 3\n", "pour\t+ mon/a 3"]:
            self.refused_row(desk, NoText, row)
        for row in ["pour + mon 3", "pour + mon/a/a 3", "pour + sun/a 3", "pour + a/mon 3", "pour + w1/a 3"]:
            self.refused_row(desk, NoRow, row)
        for row in ["pour - mon/a 99", "pour - sun/a 3; - mon/a 99", "pour - mon/a 3; - mon/a 3; - mon/a 3"]:
            self.refused_row(desk, NoRow if "sun" in row else NoSuch, row)
        self.refused_row(desk, NoText, "pour - mon/a 99; + mon/a")
        self.refused_row(desk, NoSuch, "pour - mon/a 99; + sun/a 3")

    def test_two_hundred_rows(self):
        desk = Desk()
        for row in ["axis a", "open"]:
            desk.say(row)
        for number in range(2):
            self.answers(desk, "pour " + "; ".join(["+ a 1"] * 100), "1 changed")
        self.refused_row(desk, TooMuch, "pour + a 1")
        self.refused_row(desk, TooMuch, "pour + a 1; + b 1")
        self.refused_row(desk, NoText, "pour + a 1; + b")
        self.answers(desk, "ask 1", "*: 200 200 1 1")

    def test_keep_and_forget(self):
        desk = opened()
        self.answers(desk, "keep 0/0", "5 cells")
        self.answers(desk, "keep 2/3", "1 cells")
        self.answers(desk, "keep 1/1", "3 cells")
        self.answers(desk, "forget 1/1", "ok")
        self.refused_row(desk, NoGrain, "forget 1/1")
        self.refused_row(desk, NoGrain, "forget 0/0")
        for word in ["keep", "forget"]:
            for grain in ["0", "0/0/0", "3/0", "0/4", "9/9"]:
                self.refused_row(desk, NoGrain, f"{word} {grain}")
            for grain in ["", " 0/0", "0/0 ", "0 0", "-1/0", "0/*", "a/b", "00/0", "0/0/0/0/0", "0/0\n", "0/", "0/0 0/1"]:
                self.refused_row(desk, NoText, f"{word} {grain}")

    def test_twelve_tables(self):
        desk = Desk()
        for row in ["axis a/b/c/d", "axis a/b/c/d", "open"]:
            desk.say(row)
        grains = [f"{one}/{other}" for one in range(3) for other in range(5)]
        for grain in grains[:12]:
            self.answers(desk, f"keep {grain}", "0 cells")
        self.refused(TooMuch, desk.say, f"keep {grains[12]}")
        self.refused(NoGrain, desk.say, "keep 5/5")
        self.answers(desk, "keep 0/1", "0 cells")
        self.answers(desk, "forget 0/1", "ok")
        self.answers(desk, f"keep {grains[12]}", "0 cells")

    def test_move(self):
        desk = opened()
        self.answers(desk, "move 0 0 mon w2", "4 changed")
        self.answers(desk, "move 0 0 mon w2", "0 changed")
        self.answers(desk, "ask 1/3", "w1/*: 1 -5 -5 -5; w2/*: 5 25 0 9")
        for row in ["move 2 0 mon w1", "move -1 0 mon w1", "move 0 1 w1 w2", "move 0 2 w1 w2", "move 0 -1 mon w1",
                    "move 0 0 sun w1", "move 0 0 mon w3", "move 0 0 w1 mon", "move 0 0 8 w1", "move 0 0 mon 7",
                    "move 9 9 a b"]:
            self.refused_row(desk, NoValue, row)
        for row in ["move 0 0 mon", "move 0 0 mon w1 w2", "move 0 0 mon *", "move 0 0 * w1", "move a 0 mon w1",
                    "move 0 a mon w1", "move * 0 mon w1", "move 0 0 mon w1 ", "move  0 0 mon w1", "move 0 0 Mon w1",
                    "move 00 0 mon w1", "move 0 -0 mon w1", "move +0 0 mon w1", "move 9 0 mon *", "move 0/0 mon w1",
                    "move 0 0 mon w1\n"]:
            self.refused_row(desk, NoText, row)

    def test_grow(self):
        desk = opened()
        self.answers(desk, "grow 0 sun/w2", "ok")
        self.answers(desk, "pour + sun/a 1", "3 changed")
        for row in ["grow 2 d/t1/x", "grow -1 sun/w2", "grow 9 mon/w1", "grow 5 a"]:
            self.refused_row(desk, NoValue, row)
        for row in ["grow 0 mon/w1", "grow 0 sat", "grow 0 sat/w1/x", "grow 1 d/t1/y", "grow 1 a/t1/x", "grow 0 sun/w2"]:
            self.refused_row(desk, NoLadder, row)
        for row in ["grow 0", "grow 0 ", "grow 0 sat/*", "grow 0 sat/w1 fri/w1", "grow a sat/w1", "grow * sat/w1",
                    "grow 0  sat/w1", "grow 0 sat/w1 ", "grow 0 a/b/c/d/e", "grow 9 A", "grow sat/w1", "grow 00 sat/w1"]:
            self.refused_row(desk, NoText, row)
        for number in range(35):
            self.answers(desk, f"grow 0 {number + 100}/w1", "ok")
        self.refused_row(desk, TooMuch, "grow 0 sat/w1")
        self.refused_row(desk, NoLadder, "grow 0 mon/w1")
        self.refused_row(desk, NoValue, "grow 2 sat/w1")
        self.refused_row(desk, NoText, "grow 0 sat/*")

    def test_ask_and_plan(self):
        desk = opened()
        self.answers(desk, "ask 1/3", "w1/*: 3 2 -5 4; w2/*: 3 18 0 9")
        self.answers(desk, "ask 0/3", "7/*: 2 18 9 9; mon/*: 2 7 3 4; tue/*: 1 -5 -5 -5; wed/*: 1 0 0 0")
        self.answers(desk, "ask 2/0 0@1=w1", "*/a: 2 -2 -5 3; */b: 1 4 4 4")
        self.answers(desk, "ask 2/3 0@0=mon,7 1@0=b", "*/*: 3 22 4 9")
        self.answers(desk, "ask 2/3 0@0=mon 0@0=7", "none")
        self.answers(desk, "ask 2/3 0@2=*", "*/*: 6 20 -5 9")
        self.answers(desk, "ask 2/3 0@2=mon", "none")
        self.answers(desk, "ask 2/3 0@0=nowhere", "none")
        self.answers(desk, "plan 1/3", "1/3 2")
        self.answers(desk, "plan 1/2", "1/1 3")
        self.answers(desk, "plan 2/3 0@0=mon", "0/0 2")
        self.answers(desk, "plan 2/3 0@0=nowhere", "0/0 0")
        for word in ["ask", "plan"]:
            for rest in ["0", "3/0", "0/4", "0/0/0", "9/9 9@9=a", "0 0@0=mon", "3/0 2@0=a"]:
                self.refused_row(desk, NoGrain, f"{word} {rest}")
            for rest in ["0/0 2@0=a", "0/0 0@3=a", "0/0 1@4=a", "0/0 0@0=mon 9@0=a"]:
                self.refused_row(desk, NoPick, f"{word} {rest}")
            for rest in ["", "0/0 ", " 0/0", "0/0  0@0=mon", "0/0 0@0=mon ", "0/0 0@0=", "0/0 mon", "0@0=mon", "a/0",
                         "0/0 0@0=Mon", "0/0 0@0=mon, tue", "0/0; 0/1", "9/9 0@0", "0/0 -1@0=a", "0/0 0@-1=a",
                         "*/0", "-1/0", "0/0\n", "0/0\t0@0=mon", "0/0 0@0=01"]:
                self.refused_row(desk, NoText, f"{word} {rest}")

    def test_total_and_reading(self):
        desk = opened()
        self.answers(desk, "total 0", "6 20")
        self.answers(desk, "total 1", "6 20")
        self.answers(desk, "total 0 0@0=mon,tue", "3 2")
        self.answers(desk, "total 1 0@0=mon,tue 1@1=t1", "3 2")
        self.answers(desk, "total 0 0@0=nowhere", "0 0")
        self.answers(desk, "total 0 0@0=wed", "1 0")
        self.answers(desk, "reading 0", "2 cells")
        self.answers(desk, "reading 0 0@1=w1", "1 cells")
        self.answers(desk, "reading 0 0@0=tue", "1 cells")
        self.answers(desk, "reading 0 0@0=nowhere", "0 cells")
        for word in ["total", "reading"]:
            for rest in ["2", "-1", "9", "2 0@0=mon", "-1 9@9=a", "5 0@7=a", "1" * 60]:
                self.refused_row(desk, NoValue, f"{word} {rest}")
            for rest in ["0 2@0=a", "1 0@3=a", "0 1@4=a", "0 0@0=mon 9@0=a"]:
                self.refused_row(desk, NoPick, f"{word} {rest}")
            for rest in ["", " 0", "0 ", "a", "*", "0/0", "00", "-0", "+0", "0 mon", "0 0@0=", "9 0@0", "0  0@0=mon",
                         "0 0@0=mon ", "0@0=mon", "0\n", "0\t", "1" * 61, "0,1", "0 -1@0=a"]:
                self.refused_row(desk, NoText, f"{word} {rest}")

    def test_two_desks_stay_apart(self):
        one, other = opened(), opened()
        ahead = state_of(other)
        one.say("pour + mon/a 30")
        one.say("move 0 0 mon w2")
        self.assertEqual(state_of(other), ahead)


class BesideTest(unittest.TestCase, DeskAsserts):
    # A row and the same asked of a book beside: the same answer, or a refusal of the same class.
    def same(self, desk, row, ask):
        try:
            wanted = ask()
        except CubeError as error:
            self.refused(type(error), desk.say, row)
            return
        self.answers(desk, row, wanted)

    def deed(self, source, desk, book, ladders):
        row = random_rows(source, ladders, 1)[0]
        key = "/".join(written(value) for value in row[0])
        axis = source.randint(0, len(ladders))
        sign = source.choice("++-")
        grain = random_grain(source, ladders)
        text = "/".join(str(level) for level in grain)
        line, other = random_key(source, [ladders[0]])[0], source.choice(ladders[0])
        deed = source.choice(["pour", "pour", "pour", "keep", "forget", "move", "grow"])
        if deed == "pour":
            self.same(desk, f"pour {sign} {key} {row[1]}",
                      lambda: "%d changed" % len(book.pour([(sign, row[0], row[1])])))
        elif deed == "keep":
            self.same(desk, f"keep {text}", lambda: "%d cells" % book.keep(grain))
        elif deed == "forget":
            self.same(desk, f"forget {text}", lambda: book.forget(grain) or "ok")
        elif deed == "move":
            self.same(desk, f"move {axis} 0 {line} {other[-1]}",
                      lambda: "%d changed" % len(book.regroup(axis, 0, line, other[-1])))
        else:
            new = ("g%d" % source.randint(0, 9),) + other[1:]
            self.same(desk, f"grow {axis} " + "/".join(str(value) for value in new), lambda: book.grow(axis, new) or "ok")

    def question(self, source, desk, book, ladders):
        grain = random_grain(source, ladders)
        text = "/".join(str(level) for level in grain)
        picks = [pick for pick in random_picks(source, ladders, 3) if len(pick[2]) > 0]
        axis = source.randint(-1, len(ladders))
        answer = book.answer(grain, picks)
        wanted = "; ".join("/".join(written(value) for value in key) + ": %d %d %d %d" % cell for key, cell in answer)
        self.answers(desk, f"ask {text}{pick_row(picks)}", wanted or "none")
        plan = book.plan(grain, picks)
        self.answers(desk, f"plan {text}{pick_row(picks)}", "/".join(str(level) for level in plan[0]) + f" {plan[1]}")
        self.same(desk, f"total {axis}{pick_row(picks)}", lambda: "%d %d" % total_of(book, axis, picks))
        self.same(desk, f"reading {axis}{pick_row(picks)}", lambda: "%d cells" % reading_cells(book, axis, picks))

    def test_books_made_beside(self):
        for number in range(40):
            source = source_of(200 + number)
            ladders = random_ladders(source, 5)
            desk, book = Desk(), Book(ladders)
            for ladder in ladders:
                self.answers(desk, "axis " + " ".join("/".join(str(value) for value in line) for line in ladder), "ok")
            self.answers(desk, "open", "ok")
            for step in range(25):
                self.deed(source, desk, book, ladders)
                self.question(source, desk, book, ladders)

    def test_the_rows_themselves(self):
        desk, rows = opened(), []
        for part in ROWS[5:].split("; "):
            sign, key, amount = part.split(" ")
            rows.append((tuple(int(value) if value.isdigit() else value for value in key.split("/")), int(amount)))
        for one in range(whole(LADDERS[0]) + 1):
            for other in range(whole(LADDERS[1]) + 1):
                table = aids.table_of(LADDERS, rows, (one, other))
                wanted = "; ".join("/".join(written(value) for value in key) + ": %d %d %d %d" % cell
                                   for key, cell in table)
                self.answers(desk, f"ask {one}/{other}", wanted)


if __name__ == "__main__":
    unittest.main()
