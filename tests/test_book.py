import copy
import itertools
import unittest

import aids
from aids import (ANY_THINGS, LADDER_SETS, LADDERS, MANY, Asserts, answers, grains_of, lists_within, random_grain,
                  random_key, random_ladders, random_picks, random_rows, source_of, spoil, whole)
from cubebook.book import Book
from cubebook.errors import NoGrain, NoLadder, NoPick, NoRow, NoSuch, NoValue, TooMuch
from cubebook.ladders import is_line
from cubebook.words import is_value, is_whole

DAYS = [("mon", "w1"), ("tue", "w1"), ("wed", "w2"), (7, "w2"), (1, 1)]
SHOPS = [("a", "t1", "x"), ("b", "t1", "x"), ("c", "t2", "y")]
ROWS = [(("mon", "a"), 5), (("mon", "a"), 5), (("mon", "b"), -7), (("wed", "c"), 0), ((7, "a"), 3), ((1, "c"), MANY)]
NO_AXES = [-1, -2, 2, 3, True, False, None, "a", "0", [], [0], (0,), 10 ** 50]


def ins(rows):
    return [("+", key, amount) for key, amount in rows]


def row_order(rows):
    return sorted(rows, key=lambda row: (aids.key_rank(row[0]), row[1]))


def some_book():
    book = Book([DAYS, SHOPS])
    book.pour(ins(ROWS))
    for grain in [(1, 1), (2, 0), (1, 3)]:
        book.keep(grain)
    return book


# All that can be asked of a book.
def state_of(book):
    tables = [book.table(grain) for grain in book.kept()]
    plans = [book.plan(grain, []) for grain in grains_of(book.ladders())]
    return copy.deepcopy((book.ladders(), book.rows(), book.kept(), tables, plans))


def changed_between(ladders, rows, ladders_behind, rows_behind, kept):
    changed = []
    for grain in sorted(kept):
        ahead = dict(aids.table_of(ladders, rows, grain))
        behind = dict(aids.table_of(ladders_behind, rows_behind, grain))
        keys = [key for key in list(ahead) + list(behind) if ahead.get(key) != behind.get(key)]
        changed += [(grain, key) for key in aids.sorted_keys(keys)]
    return changed


class BookAsserts(Asserts):
    def holds(self, book, ladders, rows, kept):
        self.assertEqual(book.ladders(), ladders)
        self.assertEqual(book.rows(), row_order(rows))
        self.assertEqual(book.kept(), sorted(kept))
        for grain in kept:
            self.assertEqual(book.table(grain), aids.table_of(ladders, rows, grain))

    def refused_by(self, book, kind, ask, *handed):
        ahead = state_of(book)
        self.refused(kind, ask, *handed)
        self.assertEqual(state_of(book), ahead)


class MadeTest(unittest.TestCase, BookAsserts):
    def test_one_to_four_ladders(self):
        for ladders in LADDER_SETS:
            self.holds(self.asked(Book, ladders), ladders, [], [(0,) * len(ladders)])

    def test_what_is_no_list_of_ladders(self):
        self.refused(NoLadder, Book, [])
        self.refused(NoLadder, Book, [LADDERS[0]] * 5)
        self.refused(NoLadder, Book, (LADDERS[0],))
        self.refused(NoLadder, Book, tuple(LADDERS))
        self.refused(NoLadder, Book, LADDERS[0])
        self.refused(NoLadder, Book, [[(number,) for number in range(41)]])
        for spoiled in [[], [("a",), ("a",)], [("a", 1), ("b",)], [("a", True)], tuple(LADDERS[1]), ("a",), None]:
            for place in range(3):
                ladders = [LADDERS[0], LADDERS[1]]
                ladders.insert(place, spoiled)
                self.refused(NoLadder, Book, ladders)
        for thing in ANY_THINGS:
            self.refused(NoLadder, Book, thing)
            self.refused(NoLadder, Book, [thing] if thing != [(1,)] else thing)

    def test_forty_lines(self):
        ladder = [(number,) for number in range(40)]
        self.holds(Book([ladder] * 4), [ladder] * 4, [], [(0, 0, 0, 0)])

    def test_a_change_of_what_was_handed_in(self):
        ladders = [list(DAYS), list(SHOPS)]
        book = Book(ladders)
        ladders[0].append(("sun", "w2"))
        ladders[1].clear()
        ladders.pop()
        self.holds(book, [DAYS, SHOPS], [], [(0, 0)])
        twice = list(DAYS)
        book = Book([twice, twice])
        twice.clear()
        self.holds(book, [DAYS, DAYS], [], [(0, 0)])

    def test_told_lists_are_the_askers_own(self):
        book = some_book()
        picks = [(0, 1, ["w1"])]
        asks = [book.ladders, book.rows, book.kept, lambda: book.table((0, 0)), lambda: book.table((1, 1)),
                lambda: book.answer((1, 1), picks), lambda: book.answer((0, 0), []), lambda: book.answer((0, 0), picks)]
        ahead = state_of(book)
        for ask in asks:
            self.own_each_time(ask)
            found = lists_within(ask())
            self.assertEqual(len({id(part) for part in found}), len(found))
        self.assertEqual(state_of(book), ahead)
        spoil(book.pour([("+", ("tue", "a"), 1)]))
        spoil(book.pour([("-", ("tue", "a"), 1)]))
        spoil(book.regroup(0, 0, "mon", "w2"))
        spoil(book.regroup(0, 0, "mon", "w1"))
        self.assertEqual(state_of(book), ahead)

    def test_the_same_ladder_twice_is_told_as_two_lists(self):
        told = Book([DAYS, DAYS]).ladders()
        told[0].clear()
        self.assertEqual(told[1], DAYS)

    def test_two_books_stay_apart(self):
        one, other = Book([DAYS]), Book([DAYS])
        one.pour([("+", ("mon",), 1)])
        one.keep((1,))
        one.grow(0, ("sun", "w2"))
        self.holds(other, [DAYS], [], [(0,)])


class PourTest(unittest.TestCase, BookAsserts):
    def test_rows_in_and_out(self):
        book = Book([DAYS, SHOPS])
        self.assertEqual(book.pour([("+", ("wed", "c"), 4), ("+", ("mon", "a"), 9), ("+", ("mon", "a"), -2)]),
                         [((0, 0), ("mon", "a")), ((0, 0), ("wed", "c"))])
        self.assertEqual(book.rows(), [(("mon", "a"), -2), (("mon", "a"), 9), (("wed", "c"), 4)])
        self.assertEqual(book.pour([("+", ("mon", "a"), 9), ("-", ("wed", "c"), 4)]),
                         [((0, 0), ("mon", "a")), ((0, 0), ("wed", "c"))])
        self.assertEqual(book.rows(), [(("mon", "a"), -2), (("mon", "a"), 9), (("mon", "a"), 9)])
        self.assertEqual(book.table((0, 0)), [(("mon", "a"), (3, 16, -2, 9))])
        for step in range(2):
            book.pour([("-", ("mon", "a"), 9)])
        self.assertEqual(book.table((0, 0)), [(("mon", "a"), (1, -2, -2, -2))])
        self.assertEqual(book.pour([("-", ("mon", "a"), -2)]), [((0, 0), ("mon", "a"))])
        self.holds(book, [DAYS, SHOPS], [], [(0, 0)])

    def test_out_and_in_again(self):
        book = some_book()
        ahead = state_of(book)
        self.assertEqual(book.pour([]), [])
        self.assertEqual(book.pour([("-", ("mon", "b"), -7), ("+", ("mon", "b"), -7)]), [])
        self.assertEqual(book.pour([("+", ("tue", "b"), -7), ("-", ("tue", "b"), -7)]), [])
        self.assertEqual(state_of(book), ahead)

    def test_cells_that_stay_the_same_by_other_rows(self):
        book = Book([[("a", 1), ("b", 1)]])
        book.keep((1,))
        book.keep((2,))
        book.pour([("+", ("a",), 0), ("+", ("a",), 4), ("+", ("b",), 2)])
        self.assertEqual(book.pour([("-", ("a",), 4), ("+", ("b",), 4)]), [((0,), ("a",)), ((0,), ("b",))])
        book.pour([("+", ("a",), 1), ("+", ("a",), 3), ("+", ("a",), 9)])
        self.assertEqual(book.pour([("-", ("a",), 1), ("-", ("a",), 3), ("+", ("a",), 2), ("+", ("a",), 2)]), [])

    def test_the_order_of_what_is_told(self):
        book = Book([DAYS, SHOPS])
        for grain in [(1, 3), (0, 2), (2, 0)]:
            book.keep(grain)
        told = book.pour([("+", ("mon", "a"), 1), ("+", (7, "c"), 2), ("+", (1, "b"), 0)])
        self.assertEqual(told, [
            ((0, 0), (1, "b")), ((0, 0), (7, "c")), ((0, 0), ("mon", "a")),
            ((0, 2), (1, "x")), ((0, 2), (7, "y")), ((0, 2), ("mon", "x")),
            ((1, 3), (1, None)), ((1, 3), ("w1", None)), ((1, 3), ("w2", None)),
            ((2, 0), (None, "a")), ((2, 0), (None, "b")), ((2, 0), (None, "c"))])

    def test_what_is_no_change(self):
        book = some_book()
        key = ("mon", "a")
        wrong = [("+", key), (), ("+", key, 5, 5), ["+", key, 5], (key, 5), ("+", (key, 5))]
        wrong += [(sign, key, 5) for sign in ["", "++", "+-", "a", " +", 1, -1, None, True, ["+"], ("-",)]]
        wrong += [("+", other, 5) for other in [("mon",), (), ("mon", "a", "a"), ["mon", "a"], "mon", None, 5,
                                                ("w1", "a"), ("mon", "t1"), ("a", "mon"), ("mon", None), (None, "a"),
                                                (True, "a"), ("mon", True), (["mon"], "a"), ("mon", ("a",)), (8, "a")]]
        wrong += [("+", key, amount) for amount in [None, True, False, "5", "a", [5], (5,), []]]
        for change in wrong + ANY_THINGS:
            self.refused_by(book, NoRow, book.pour, [change])
            self.refused_by(book, NoRow, book.pour, [("+", key, 1), change])
            if isinstance(change, tuple) and len(change) == 3 and change[0] == "+":
                self.refused_by(book, NoRow, book.pour, [("-",) + change[1:]])

    def test_a_truth_is_no_value_of_a_key(self):
        book = Book([[(0,), (1,)]])
        for key in [(True,), (False,)]:
            self.refused_by(book, NoRow, book.pour, [("+", key, 1)])
        book.pour([("+", (1,), 1)])
        self.refused_by(book, NoRow, book.pour, [("-", (True,), 1)])
        self.refused_by(book, NoRow, book.pour, [("-", (1,), True)])

    def test_no_such_row(self):
        book = some_book()
        out = [("-", ("mon", "a"), 5)]
        for changes in [[("-", ("mon", "a"), 6)], [("-", ("tue", "a"), 5)], out * 3, out + [("-", ("mon", "b"), 5)],
                        [("-", ("tue", "a"), 5), ("+", ("tue", "a"), 5)]]:
            self.refused_by(book, NoSuch, book.pour, changes)
        book.pour(out * 2)
        self.refused_by(book, NoSuch, book.pour, out)

    def test_two_hundred_rows(self):
        book = Book([DAYS, SHOPS])
        book.keep((1, 3))
        row = ("+", ("mon", "a"), 1)
        self.refused_by(book, TooMuch, book.pour, [row] * 201)
        book.pour([row] * 199)
        self.refused_by(book, TooMuch, book.pour, [row] * 2)
        book.pour([row, ("-", ("mon", "a"), 1), ("+", ("tue", "b"), 3)])
        self.assertEqual(len(book.rows()), 200)
        self.refused_by(book, TooMuch, book.pour, [row])
        self.refused_by(book, TooMuch, book.pour, [row, ("-", ("mon", "a"), 1)])
        book.pour([("-", ("mon", "a"), 1), row])
        self.assertEqual(len(book.rows()), 200)
        self.assertEqual(book.table((1, 3)), [(("w1", None), (200, 202, 1, 3))])
        book.pour([("-", ("mon", "a"), 1)] * 199 + [("-", ("tue", "b"), 3)])
        self.holds(book, [DAYS, SHOPS], [], [(0, 0), (1, 3)])

    def test_the_first_change_that_is_refused_decides(self):
        book = Book([DAYS, SHOPS])
        row = ("+", ("mon", "a"), 1)
        book.pour([row] * 200)
        faults = {NoRow: ("+", ("mon",), 1), NoSuch: ("-", ("tue", "a"), 1), TooMuch: row}
        for order in itertools.permutations(faults):
            self.refused_by(book, order[0], book.pour, [faults[kind] for kind in order])
            self.refused_by(book, order[0], book.pour,
                            [("-", ("mon", "a"), 1), row] + [faults[kind] for kind in order])
        self.refused_by(book, NoRow, book.pour, [("+", ("mon", "nowhere"), 1)])

    def test_a_change_of_what_was_handed_in(self):
        book = Book([DAYS, SHOPS])
        changes = ins(ROWS)
        book.pour(changes)
        changes.clear()
        self.holds(book, [DAYS, SHOPS], ROWS, [(0, 0)])


class KeepTest(unittest.TestCase, BookAsserts):
    def test_each_grain(self):
        for grain in grains_of([DAYS, SHOPS]):
            book = Book([DAYS, SHOPS])
            self.assertEqual(self.asked(book.keep, grain), 0)
            book.pour(ins(ROWS))
            wanted = len(aids.table_of([DAYS, SHOPS], ROWS, grain))
            self.assertEqual(self.asked(book.keep, grain), wanted)
            self.holds(book, [DAYS, SHOPS], ROWS, {(0, 0), grain})
            self.assertIs(type(book.keep(grain)), int)
            if grain != (0, 0):
                self.assertIsNone(self.asked(book.forget, grain))
                self.holds(book, [DAYS, SHOPS], ROWS, [(0, 0)])
                self.refused_by(book, NoGrain, book.table, grain)
                self.refused_by(book, NoGrain, book.forget, grain)
                self.assertEqual(book.keep(grain), wanted)

    def test_what_is_no_grain(self):
        book = some_book()
        wrong = [(3, 0), (0, 4), (-1, 0), (0,), (0, 0, 0), [0, 0], [1, 1], (True, 0), (0, False), (True, True),
                 (None, 0), ("0", 0), ((0, 0),), ([0], 0)]
        for thing in wrong + ANY_THINGS:
            self.refused_by(book, NoGrain, book.keep, thing)
            self.refused_by(book, NoGrain, book.forget, thing)
            self.refused_by(book, NoGrain, book.table, thing)

    def test_what_is_not_kept(self):
        book = some_book()
        for grain in grains_of([DAYS, SHOPS]):
            if grain not in book.kept():
                self.refused_by(book, NoGrain, book.forget, grain)
                self.refused_by(book, NoGrain, book.table, grain)
        self.refused_by(book, NoGrain, book.forget, (0, 0))

    def test_twelve_and_the_thirteenth(self):
        book = Book([DAYS, DAYS, SHOPS])
        book.pour(ins([(("mon", 7, "a"), 1), ((1, 7, "c"), 2)]))
        grains = grains_of(book.ladders())
        for grain in grains[1:12]:
            book.keep(grain)
        self.assertEqual(book.kept(), grains[:12])
        for grain in grains[12:]:
            self.refused_by(book, TooMuch, book.keep, grain)
        for thing in [(9, 9, 9), None, (True, 0, 0)]:
            self.refused_by(book, NoGrain, book.keep, thing)
        for grain in grains[:12]:
            self.assertEqual(book.keep(grain), 2 if grain < (0, 2) else len(book.table(grain)))
        book.forget(grains[5])
        book.keep(grains[20])
        self.refused_by(book, TooMuch, book.keep, grains[5])


class LaddersTest(unittest.TestCase, BookAsserts):
    def test_another_parent(self):
        book = some_book()
        told = book.regroup(0, 0, "mon", "w2")
        days = [("mon", "w2")] + DAYS[1:]
        self.holds(book, [days, SHOPS], ROWS, [(0, 0), (1, 1), (1, 3), (2, 0)])
        self.assertEqual(told, [((1, 1), ("w1", "t1")), ((1, 1), ("w2", "t1")),
                                ((1, 3), ("w1", None)), ((1, 3), ("w2", None))])
        self.assertEqual(book.regroup(0, 0, "mon", "w2"), [])
        self.assertEqual(book.regroup(1, 0, "b", "t2"), [((1, 1), ("w2", "t1")), ((1, 1), ("w2", "t2"))])
        self.assertEqual(book.regroup(1, 1, "t2", "x"), [])

    def test_each_parent(self):
        for axis, ladder in enumerate([DAYS, SHOPS]):
            for level in range(whole(ladder) - 1):
                for line, other in itertools.product(ladder, repeat=2):
                    book = some_book()
                    told = self.asked(book.regroup, axis, level, line[level], other[level + 1])
                    moved = [old if old[level] != line[level] else old[:level + 1] + other[level + 1:] for old in ladder]
                    ladders = [moved, SHOPS] if axis == 0 else [DAYS, moved]
                    kept = [(0, 0), (1, 1), (1, 3), (2, 0)]
                    self.holds(book, ladders, ROWS, kept)
                    self.assertEqual(told, changed_between([DAYS, SHOPS], ROWS, ladders, ROWS, kept))

    def test_no_such_level_value_or_parent(self):
        book = some_book()
        for axis, level, value, parent in [(0, 1, "w1", "w2"), (0, 2, None, None), (0, -1, "mon", "w1"),
                                           (0, True, "w1", "w2"), (0, False, "mon", "w2"), (0, None, "mon", "w1"),
                                           (0, "a", "mon", "w1"), (0, 0, "sun", "w1"), (0, 0, "w1", "w2"),
                                           (0, 0, True, "w1"), (0, 0, "mon", True), (0, 0, "mon", "w9"),
                                           (0, 0, "mon", None), (0, 0, None, "w1"), (0, 0, ["mon"], "w1"),
                                           (0, 0, "mon", ["w1"]), (1, 2, "x", "y"), (1, 3, None, None)]:
            self.refused_by(book, NoValue, book.regroup, axis, level, value, parent)
        for thing in ANY_THINGS:
            if not is_whole(thing) or thing not in [0]:
                self.refused_by(book, NoValue, book.regroup, 0, thing, "mon", "w1")
            if not is_value(thing) or thing not in [1, 7]:
                self.refused_by(book, NoValue, book.regroup, 0, 0, thing, "w1")
            if not is_value(thing) or thing != 1:
                self.refused_by(book, NoValue, book.regroup, 0, 0, "mon", thing)

    def test_a_line_grown(self):
        book = some_book()
        self.assertIsNone(self.asked(book.grow, 0, ("sun", "w2")))
        self.assertIsNone(book.grow(1, (9, "t9", "y")))
        ladders = [DAYS + [("sun", "w2")], SHOPS + [(9, "t9", "y")]]
        self.holds(book, ladders, ROWS, [(0, 0), (1, 1), (1, 3), (2, 0)])
        row = (("sun", 9), 4)
        self.assertEqual(book.pour(ins([row])), changed_between(ladders, ROWS, ladders, ROWS + [row], book.kept()))
        self.holds(book, ladders, ROWS + [row], [(0, 0), (1, 1), (1, 3), (2, 0)])

    def test_what_can_not_be_grown(self):
        book = some_book()
        for line in [("mon", "w1"), ("mon", "w2"), ("sun",), ("sun", "w1", "w1"), ["sun", "w1"], ("sun", True)]:
            self.refused_by(book, NoLadder, book.grow, 0, line)
        self.refused_by(book, NoLadder, book.grow, 1, ("d", "t1", "y"))
        for thing in ANY_THINGS:
            if not is_line(thing):
                self.refused_by(book, NoLadder, book.grow, 1, thing)

    def test_forty_lines(self):
        book = Book([[(0, "w")], DAYS])
        for number in range(1, 40):
            book.grow(0, (number, "w"))
        self.assertEqual(len(book.ladders()[0]), 40)
        self.refused_by(book, TooMuch, book.grow, 0, (40, "w"))
        for line in [(39, "w"), (40,), None, (True, "w")]:
            self.refused_by(book, NoLadder, book.grow, 0, line)
        book.grow(1, ("sun", "w1"))
        self.refused_by(book, NoValue, book.grow, 2, (40, "w"))

    def test_no_such_axis_goes_ahead(self):
        book = some_book()
        for axis in NO_AXES:
            self.refused_by(book, NoValue, book.regroup, axis, 0, "mon", "w2")
            self.refused_by(book, NoValue, book.regroup, axis, None, [], ())
            for line in [("sun", "w1"), ("d", "t1", "x"), ("mon",), None, [], ("d", "t1", "y")]:
                self.refused_by(book, NoValue, book.grow, axis, line)


class QuestionsTest(unittest.TestCase, BookAsserts):
    def told(self, book, grain, picks):
        ladders, rows = book.ladders(), book.rows()
        wanted = None
        for kept in book.kept():
            if answers(ladders, kept, grain, picks):
                cells = aids.cells_read(ladders, rows, kept, picks)
                if wanted is None or cells < wanted[1]:
                    wanted = (kept, cells)
        plan = self.asked(book.plan, grain, picks)
        self.assertEqual(plan, wanted)
        self.assertEqual([type(plan), type(plan[0]), type(plan[1])], [tuple, tuple, int])
        answer = self.asked(book.answer, grain, picks)
        self.assertEqual(answer, aids.table_of(ladders, aids.picked_rows(ladders, rows, picks), grain))

    def test_as_written(self):
        book = some_book()
        self.assertEqual(book.plan((1, 3), []), ((1, 3), 3))
        self.assertEqual(book.plan((2, 3), []), ((1, 3), 3))
        self.assertEqual(book.plan((0, 3), []), ((0, 0), 5))
        self.assertEqual(book.plan((1, 3), [(0, 0, ["mon", "tue"])]), ((1, 1), 1))
        self.assertEqual(book.plan((1, 3), [(0, 0, ["mon"])]), ((0, 0), 2))
        self.assertEqual(book.plan((2, 3), [(0, 0, [])]), ((0, 0), 0))
        self.assertEqual(book.answer((1, 3), [(0, 1, ["w1"])]), [(("w1", None), (3, 3, -7, 5))])
        self.assertEqual(book.answer((2, 3), []), [((None, None), (6, 6 + MANY, -7, MANY))])
        self.assertEqual(book.answer((2, 3), [(0, 0, [])]), [])

    def test_several_with_as_few_cells(self):
        book = Book([DAYS, SHOPS])
        for grain in [(2, 3), (1, 3), (2, 2)]:
            book.keep(grain)
        self.assertEqual(book.plan((2, 3), []), ((0, 0), 0))
        book.pour([("+", ("mon", "a"), 1)])
        self.assertEqual(book.plan((2, 3), []), ((0, 0), 1))
        book.pour([("+", ("tue", "a"), 1)])
        self.assertEqual(book.plan((2, 3), []), ((1, 3), 1))
        book.pour([("+", ("wed", "a"), 1)])
        self.assertEqual(book.plan((2, 3), []), ((2, 2), 1))
        book.pour([("+", ("wed", "c"), 1)])
        self.assertEqual(book.plan((2, 3), []), ((2, 3), 1))

    def test_each_grain(self):
        source = source_of(14)
        book = some_book()
        for grain in grains_of([DAYS, SHOPS]):
            self.told(book, grain, [])
            for number in range(20):
                self.told(book, grain, random_picks(source, [DAYS, SHOPS]))

    def test_no_grain_then_no_picks(self):
        book = some_book()
        for ask in [book.plan, book.answer]:
            for thing in ANY_THINGS + [(3, 0), (0,), (True, 0), [0, 0]]:
                self.refused_by(book, NoGrain, ask, thing, [])
                self.refused_by(book, NoGrain, ask, thing, None)
                self.refused_by(book, NoGrain, ask, thing, [(9, 0, [])])
            wrong = [[(2, 0, ["a"])], [(0, 3, ["a"])], [(0, 0, "a")], [(0, 0, [True])], [(True, 0, ["a"])],
                     [(0, True, ["a"])], [(-1, 0, [])], ((0, 0, ["mon"]),), [[0, 0, ["mon"]]], (0, 0, ["mon"])]
            for thing in wrong + [thing for thing in ANY_THINGS if thing != []]:
                self.refused_by(book, NoPick, ask, (1, 1), thing)

    def test_behind_each_kind_of_deed(self):
        book = some_book()
        questions = [((1, 3), [(0, 0, ["mon", "tue"])]), ((0, 0), []), ((2, 2), [(1, 1, ["t1"])]), ((2, 3), [])]
        deeds = [lambda: book.pour([("+", ("tue", "c"), 8)]), lambda: book.regroup(0, 0, "tue", "w2"),
                 lambda: book.keep((2, 2)), lambda: book.grow(0, ("sun", "w1")), lambda: book.forget((1, 3)),
                 lambda: book.pour([("+", ("sun", "c"), -8)]), lambda: book.regroup(1, 1, "t1", "y"),
                 lambda: book.pour([("-", ("mon", "a"), 5)])]
        for deed in deeds:
            deed()
            for grain, picks in questions:
                self.told(book, grain, picks)

    def test_a_change_of_the_picks_handed_in(self):
        book = some_book()
        picks = [(0, 1, ["w1"])]
        self.assertEqual(book.plan((1, 3), picks), ((1, 1), 1))
        picks[0][2].append("w2")
        self.assertEqual(book.plan((1, 3), picks), ((1, 3), 2))
        picks.clear()
        self.assertEqual(book.plan((1, 3), picks), ((1, 3), 3))


class DeedsTest(unittest.TestCase, BookAsserts):
    # A row of deeds, each done to the book and to a plain list of rows, ladders and grains beside it.
    def row_of_deeds(self, source, many):
        ladders = random_ladders(source, 5)
        book = Book(ladders)
        rows, kept = [], {(0,) * len(ladders)}
        for number in range(many):
            deed = source.choice([self.pour, self.pour, self.regroup, self.grow, self.keep, self.forget])
            ladders, rows, kept = deed(source, book, ladders, rows, kept)
            self.holds(book, ladders, rows, kept)
            QuestionsTest.told(self, book, random_grain(source, ladders), random_picks(source, ladders, 3))

    def pour(self, source, book, ladders, rows, kept):
        behind, changes = list(rows), []
        for number in range(source.randint(0, 8)):
            if behind and source.random() < 0.5:
                row = source.choice(behind)
                behind.remove(row)
                changes.append(("-",) + row)
            else:
                row = random_rows(source, ladders, 1)[0]
                behind.append(row)
                changes.append(("+",) + row)
        wrong = source.choice([None, None, (NoRow, ("+", random_key(source, ladders), True)),
                               (NoSuch, ("-", random_key(source, ladders), 12345))])
        if wrong is not None:
            self.refused(wrong[0], book.pour, changes + [wrong[1]])
            return ladders, rows, kept
        told = self.asked(book.pour, changes)
        self.assertEqual(told, changed_between(ladders, rows, ladders, behind, kept))
        return ladders, behind, kept

    def regroup(self, source, book, ladders, rows, kept):
        axis = source.randrange(len(ladders))
        ladder = ladders[axis]
        level = source.randint(-1, whole(ladder))
        line, other = source.choice(ladder), source.choice(ladder)
        if not 0 <= level <= whole(ladder) - 2:
            self.refused(NoValue, book.regroup, axis, level, line[0], line[-1])
            return ladders, rows, kept
        moved = [old if old[level] != line[level] else old[:level + 1] + other[level + 1:] for old in ladder]
        behind = ladders[:axis] + [moved] + ladders[axis + 1:]
        told = self.asked(book.regroup, axis, level, line[level], other[level + 1])
        self.assertEqual(told, changed_between(ladders, rows, behind, rows, kept))
        return behind, rows, kept

    def grow(self, source, book, ladders, rows, kept):
        axis = source.randrange(len(ladders))
        place = source.randint(1, whole(ladders[axis]))
        line = tuple("g%d" % source.randint(0, 99) for level in range(place)) + source.choice(ladders[axis])[place:]
        if line[0] in [old[0] for old in ladders[axis]] or len(ladders[axis]) > 6:
            return ladders, rows, kept
        for level in range(1, place):
            if line[level] in [old[level] for old in ladders[axis]]:
                return ladders, rows, kept
        self.assertIsNone(self.asked(book.grow, axis, line))
        return ladders[:axis] + [ladders[axis] + [line]] + ladders[axis + 1:], rows, kept

    def keep(self, source, book, ladders, rows, kept):
        grain = random_grain(source, ladders)
        if grain not in kept and len(kept) == 12:
            self.refused(TooMuch, book.keep, grain)
            return ladders, rows, kept
        self.assertEqual(self.asked(book.keep, grain), len(aids.table_of(ladders, rows, grain)))
        return ladders, rows, kept | {grain}

    def forget(self, source, book, ladders, rows, kept):
        grain = source.choice([random_grain(source, ladders), source.choice(sorted(kept))])
        if grain not in kept or grain == (0,) * len(ladders):
            self.refused(NoGrain, book.forget, grain)
            return ladders, rows, kept
        self.assertIsNone(self.asked(book.forget, grain))
        return ladders, rows, kept - {grain}

    def test_rows_of_deeds(self):
        for number in range(40):
            self.row_of_deeds(source_of(100 + number), 25)


if __name__ == "__main__":
    unittest.main()
