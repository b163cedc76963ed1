import unittest

import aids
from aids import (ANY_THINGS, Asserts, answers, at, finest_values, is_picked, random_grain, random_ladders, random_picks,
                  random_rows, source_of, whole)
from cubebook.book import Book
from cubebook.errors import NoPick, NoValue
from cubebook.totals import reading, reading_cells, reading_paths, total_of
from cubebook.words import is_whole

DAYS = [("mon", "w1"), ("tue", "w1"), ("wed", "w1"), ("thu", "w2"), (7, "w2")]
SHOPS = [("a", "t1", "x"), ("b", "t1", "x"), ("c", "t2", "y")]
ROWS = [((day, shop), amount) for amount, day in enumerate(finest_values(DAYS)) for shop in ["a", "b", "c"]]
ASKS = [total_of, reading, reading_cells, reading_paths]


def some_book(grains):
    book = Book([DAYS, SHOPS])
    book.pour([("+", key, amount) for key, amount in ROWS])
    for grain in grains:
        book.keep(grain)
    return book


def wholes(ladders):
    return tuple(whole(ladder) for ladder in ladders)


# How many cells are read for a value of the axis in the table of a grain, straight from the rows.
def cells_for(ladders, rows, grain, axis, value, beside):
    keys = {key for key, cell in aids.table_of(ladders, rows, grain) if key[axis] == value}
    there = [aids.key_at(ladders, key, grain) for key in aids.finest_keys(ladders)
             if aids.key_is_picked(ladders, beside, key)]
    return len(keys & set(there))


# The costs of point 26: for each pair (level, value) the fewest cells, over the kept grains that answer.
def costs_along(ladders, rows, kept, axis, picks):
    beside = [pick for pick in picks if pick[0] != axis]
    costs = {}
    for grain in kept:
        if answers(ladders, grain, wholes(ladders), beside):
            level = grain[axis]
            for finest in finest_values(ladders[axis]):
                value = at(ladders[axis], finest, level)
                many = cells_for(ladders, rows, grain, axis, value, beside)
                costs[(level, value)] = min(many, costs.get((level, value), many))
    return costs


class TotalsAsserts(Asserts):
    def told(self, book, axis, picks):
        ladders, rows, kept = book.ladders(), book.rows(), book.kept()
        amounts = [amount for key, amount in aids.picked_rows(ladders, rows, picks)]
        total = self.asked_twice(total_of, book, axis, picks)
        self.assertEqual(total, (len(amounts), sum(amounts)))
        self.assertEqual([type(total), type(total[0]), type(total[1])], [tuple, int, int])
        costs = costs_along(ladders, rows, kept, axis, picks)
        self.reading_is_right(book, axis, picks, costs)
        self.paths_keep_within(book, axis, picks, costs)

    def asked_twice(self, ask, book, axis, picks):
        ahead = (book.ladders(), book.rows(), book.kept())
        answer = self.asked(lambda axis, picks: ask(book, axis, picks), axis, picks)
        self.own_each_time(ask, book, axis, picks)
        self.assertEqual((book.ladders(), book.rows(), book.kept()), ahead)
        return answer

    def reading_is_right(self, book, axis, picks, costs):
        ladders, rows = book.ladders(), book.rows()
        beside = [pick for pick in picks if pick[0] != axis]
        told = self.asked_twice(reading, book, axis, picks)
        self.assertIs(type(told), list)
        cells = 0
        for part in told:
            self.assertIs(type(part), tuple)
            sign, grain, value = part
            self.assertIn(sign, (1, -1))
            self.assertIn(grain, book.kept())
            self.assertTrue(answers(ladders, grain, wholes(ladders), beside))
            self.assertIn((grain[axis], value), costs)
            cells += cells_for(ladders, rows, grain, axis, value, beside)
        for finest in finest_values(ladders[axis]):
            come_to = sum(sign for sign, grain, value in told if at(ladders[axis], finest, grain[axis]) == value)
            self.assertEqual(come_to, 1 if is_picked(ladders, picks, axis, finest) else 0)
        self.assertEqual(self.asked_twice(reading_cells, book, axis, picks), cells)
        self.assertIs(type(reading_cells(book, axis, picks)), int)

    def paths_keep_within(self, book, axis, picks, costs):
        ladders = book.ladders()
        paths = self.asked_twice(reading_paths, book, axis, picks)
        self.assertIs(type(paths), list)
        for one, other, times in paths:
            self.assertTrue(is_picked(ladders, picks, axis, one))
            self.assertTrue(other is None or not is_picked(ladders, picks, axis, other))
            self.assertGreaterEqual(times, 1)
        for level, value in costs:
            through = 0
            for one, other, times in paths:
                lies = [end is not None and at(ladders[axis], end, level) == value for end in (one, other)]
                through += times if lies[0] != lies[1] else 0
            self.assertLessEqual(through, costs[(level, value)])
        self.assertEqual(sum(times for one, other, times in paths), reading_cells(book, axis, picks))


class TotalsTest(unittest.TestCase, TotalsAsserts):
    def test_as_written(self):
        book = some_book([])
        picks = [(0, 0, ["mon", "tue", "thu", 7])]
        self.assertEqual(total_of(book, 0, picks), (12, 24))
        self.assertEqual(reading_cells(book, 0, picks), 12)
        self.assertEqual(reading_cells(book, 1, picks), 12)
        book.keep((0, 3))
        self.assertEqual(reading_cells(book, 0, picks), 4)
        self.assertEqual(reading_cells(book, 1, picks), 4)
        book.keep((1, 3))
        self.assertEqual(reading_cells(book, 0, picks), 3)
        book.keep((2, 3))
        self.assertEqual(reading_cells(book, 0, picks), 2)
        self.assertEqual(sorted(reading(book, 0, picks), key=repr), [(-1, (0, 3), "wed"), (1, (2, 3), None)])
        self.assertEqual(total_of(book, 0, picks), (12, 24))
        self.assertEqual(total_of(book, 1, picks), (12, 24))

    def test_a_table_that_does_not_answer_the_other_axes(self):
        book = some_book([(0, 3), (1, 3), (2, 1)])
        picks = [(1, 0, ["a"])]
        self.assertEqual(reading_cells(book, 0, picks), 5)
        self.assertEqual({grain for sign, grain, value in reading(book, 0, picks)}, {(0, 0)})
        picks = [(1, 0, ["a", "b"])]
        self.assertEqual(reading(book, 0, picks), [(1, (2, 1), None)])
        self.assertEqual(total_of(book, 0, picks), (10, 20))

    def test_no_rows(self):
        book = Book([DAYS, SHOPS])
        for axis in range(2):
            for picks in [[], [(0, 0, ["mon"])], [(1, 1, ["t1"]), (0, 1, ["w1"])]]:
                self.assertEqual(total_of(book, axis, picks), (0, 0))
                self.assertEqual(reading_cells(book, axis, picks), 0)
                self.told(book, axis, picks)

    def test_kinds_of_picks(self):
        for grains in [[], [(1, 1)], [(0, 3), (1, 3), (2, 3), (2, 0)], [(2, 2), (0, 1), (1, 0), (2, 0)]]:
            book = some_book(grains)
            for axis in range(2):
                for picks in [[], [(0, 0, ["mon", 7])], [(0, 1, ["w1"])], [(1, 0, ("a", "c"))], [(1, 2, ["x"])],
                              [(0, 0, ["tue", "thu"]), (1, 1, ["t2"])], [(0, 0, [])], [(1, 0, ["nowhere"])],
                              [(0, 1, ["w1"]), (0, 1, ["w2"])], [(0, 2, [None]), (1, 3, (None,))],
                              [(0, 0, ["mon", "tue"]), (0, 1, ["w1"]), (1, 0, ["a", "b"])]]:
                    self.told(book, axis, picks)

    def test_behind_each_kind_of_deed(self):
        book = some_book([(0, 3), (1, 1)])
        deeds = [lambda: book.pour([("+", ("mon", "c"), 9), ("-", ("tue", "a"), 1)]), lambda: book.keep((1, 3)),
                 lambda: book.regroup(0, 0, "wed", "w2"), lambda: book.grow(0, ("sun", "w3")), lambda: book.keep((2, 3)),
                 lambda: book.pour([("+", ("sun", "b"), -9)]), lambda: book.forget((0, 3)),
                 lambda: book.regroup(1, 1, "t1", "y"), lambda: book.keep((2, 0)), lambda: book.forget((1, 3))]
        for deed in deeds:
            deed()
            for axis in range(2):
                for picks in [[], [(0, 0, ["mon", "tue", 7])], [(1, 1, ["t1"])], [(0, 1, ["w2"]), (1, 0, ["a"])]]:
                    self.told(book, axis, picks)

    def test_books_of_all_kinds(self):
        source = source_of(15)
        for number in range(150):
            ladders = random_ladders(source, 5)
            book = Book(ladders)
            book.pour([("+",) + row for row in random_rows(source, ladders, source.randint(0, 30))])
            for step in range(source.randint(0, 9)):
                book.keep(random_grain(source, ladders))
            for axis in range(len(ladders)):
                self.told(book, axis, random_picks(source, ladders))

    def test_no_such_axis(self):
        book = some_book([(1, 1)])
        for ask in ASKS:
            for axis in [-1, -2, 2, 3, True, False, None, "a", "0", [], [0], (0,)] + ANY_THINGS:
                if not is_whole(axis) or not 0 <= axis <= 1:
                    for picks in [[], [(0, 0, ["mon"])], None, "a", [(9, 0, [])], [(0, 0, [True])]]:
                        self.refused(NoValue, lambda axis, picks: ask(book, axis, picks), axis, picks)

    def test_what_are_no_picks(self):
        book = some_book([(1, 1)])
        wrong = [[(2, 0, ["a"])], [(0, 3, ["a"])], [(0, 0, "a")], [(0, 0, [True])], [(True, 0, ["a"])],
                 [(1, True, ["a"])], [(-1, 0, [])], ((0, 0, ["mon"]),), [[0, 0, ["mon"]]], (0, 0, ["mon"]), [(1, 0)]]
        for ask in ASKS:
            for axis in range(2):
                for thing in wrong + [thing for thing in ANY_THINGS if thing != []]:
                    self.refused(NoPick, lambda axis, picks: ask(book, axis, picks), axis, thing)


if __name__ == "__main__":
    unittest.main()
