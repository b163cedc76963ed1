import unittest

import aids
from aids import ANY_THINGS, Asserts, at, finest_values, random_ladders, random_rows, source_of, whole
from cubebook.book import Book
from cubebook.errors import NoGrain, NoValue
from cubebook.views import View
from cubebook.words import is_value, is_whole

DAYS = [("mon", "w1"), ("tue", "w1"), ("wed", "w2"), (7, "w2"), (1, 1)]
SHOPS = [("a", "t1", "x"), ("b", "t1", "x"), ("c", "t2", "y")]
ROWS = [(("mon", "a"), 5), (("mon", "a"), 6), (("mon", "b"), -7), (("wed", "c"), 0), ((7, "a"), 3), ((1, "c"), 8)]


def some_book():
    book = Book([DAYS, SHOPS])
    book.pour([("+", key, amount) for key, amount in ROWS])
    book.keep((1, 1))
    return book


def state_of(view):
    return (view.grain(), view.picks(), view.cells())


def merged(cells):
    return (sum(cell[0] for cell in cells), sum(cell[1] for cell in cells),
            min(cell[2] for cell in cells), max(cell[3] for cell in cells))


class ViewAsserts(Asserts):
    def holds(self, view, book, grain, picks):
        self.assertEqual(view.grain(), grain)
        self.assertIs(type(view.grain()), tuple)
        self.assertEqual(view.picks(), picks)
        self.assertEqual([type(pick) for pick in view.picks()], [tuple] * len(picks))
        ladders = book.ladders()
        rows = aids.picked_rows(ladders, book.rows(), [(axis, level, [value]) for axis, level, value in picks])
        self.assertEqual(view.cells(), aids.table_of(ladders, rows, grain))

    def refused_by(self, view, kind, ask, *handed):
        ahead = state_of(view)
        self.refused(kind, ask, *handed)
        self.assertEqual(state_of(view), ahead)


class ViewTest(unittest.TestCase, ViewAsserts):
    def test_at_first(self):
        source = source_of(16)
        for number in range(20):
            ladders = random_ladders(source)
            book = Book(ladders)
            book.pour([("+",) + row for row in random_rows(source, ladders, 9)])
            self.holds(View(book), book, tuple(whole(ladder) for ladder in ladders), [])

    def test_as_written(self):
        book = some_book()
        view = View(book)
        self.assertIsNone(view.drill(0, None))
        self.assertEqual(state_of(view), ((1, 3), [(0, 2, None)], [
            ((1, None), (1, 8, 8, 8)), (("w1", None), (3, 4, -7, 6)), (("w2", None), (2, 3, 0, 3))]))
        self.assertIsNone(view.drill(0, "w1"))
        self.assertEqual(state_of(view), ((0, 3), [(0, 2, None), (0, 1, "w1")], [(("mon", None), (3, 4, -7, 6))]))
        view.drill(1, None)
        view.drill(1, "x")
        view.drill(1, "t1")
        self.assertEqual(view.picks(), [(0, 2, None), (0, 1, "w1"), (1, 3, None), (1, 2, "x"), (1, 1, "t1")])
        self.assertEqual(view.cells(), [(("mon", "a"), (2, 11, 5, 6)), (("mon", "b"), (1, -7, -7, -7))])
        self.assertIsNone(view.roll(0))
        self.assertEqual(view.grain(), (1, 0))
        self.assertEqual(view.cells(), [(("w1", "a"), (2, 11, 5, 6)), (("w1", "b"), (1, -7, -7, -7))])
        view.roll(0)
        self.assertEqual(view.grain(), (2, 0))
        self.assertEqual(len(view.picks()), 5)
        self.assertIsNone(view.back())
        self.assertEqual(view.grain(), (1, 0))
        for step in range(2):
            view.back()
        self.assertEqual(view.grain(), (0, 1))
        self.assertEqual(view.picks(), [(0, 2, None), (0, 1, "w1"), (1, 3, None), (1, 2, "x")])

    def test_a_value_that_no_row_has(self):
        view = View(some_book())
        view.drill(0, None)
        view.drill(0, "w1")
        view.roll(0)
        view.drill(0, "w2")
        self.assertEqual(view.picks(), [(0, 2, None), (0, 1, "w1"), (0, 1, "w2")])
        self.assertEqual(view.cells(), [])

    def test_no_axis(self):
        view = View(some_book())
        for level in range(3):
            for axis in [-1, -2, 2, 3, True, False, None, "a", "0", [], [0], (0,)] + ANY_THINGS:
                if not is_whole(axis) or not 0 <= axis <= 1:
                    self.refused_by(view, NoValue, view.roll, axis)
                    for value in [None, "w1", "mon", "nowhere", True, []]:
                        self.refused_by(view, NoValue, view.drill, axis, value)
            if level < 2:
                view.drill(0, [None, "w1"][level])

    def test_no_such_level(self):
        view = View(some_book())
        self.refused_by(view, NoGrain, view.roll, 0)
        self.refused_by(view, NoGrain, view.roll, 1)
        view.drill(0, None)
        self.refused_by(view, NoGrain, view.roll, 1)
        view.drill(0, "w1")
        for thing in ANY_THINGS + ["mon", "w1", None]:
            self.refused_by(view, NoGrain, view.drill, 0, thing)
        view.roll(0)
        view.roll(0)
        self.refused_by(view, NoGrain, view.roll, 0)

    def test_no_such_value(self):
        view = View(some_book())
        for thing in ANY_THINGS + ["mon", "w1"]:
            if thing is not None:
                self.refused_by(view, NoValue, view.drill, 0, thing)
        view.drill(0, None)
        for thing in ANY_THINGS + ["mon", "nowhere", ["w1"], ("w1",)]:
            if not is_value(thing) or thing not in [1, "w1", "w2"]:
                self.refused_by(view, NoValue, view.drill, 0, thing)
        view.drill(0, 1)
        self.assertEqual(view.picks(), [(0, 2, None), (0, 1, 1)])

    def test_back_to_the_whole_and_no_further(self):
        book = some_book()
        view = View(book)
        self.refused_by(view, NoGrain, view.back)
        states = [state_of(view)]
        for deed in [lambda: view.drill(1, None), lambda: view.drill(0, None), lambda: view.roll(1),
                     lambda: view.drill(0, "w1"), lambda: view.drill(1, None), lambda: view.roll(0),
                     lambda: view.drill(0, "w2"), lambda: view.drill(1, "y"), lambda: view.drill(1, "t2")]:
            deed()
            states.append(state_of(view))
        for state in reversed(states[:-1]):
            self.assertIsNone(view.back())
            self.assertEqual(state_of(view), state)
        self.refused_by(view, NoGrain, view.back)
        view.drill(0, None)
        self.holds(view, book, (1, 3), [(0, 2, None)])

    def test_behind_changes_of_the_book(self):
        book = some_book()
        view = View(book)
        view.drill(0, None)
        view.drill(0, "w1")
        view.drill(1, None)
        picks = [(0, 2, None), (0, 1, "w1"), (1, 3, None)]
        for deed in [lambda: book.pour([("+", ("tue", "c"), 4)]), lambda: book.regroup(0, 0, "tue", "w2"),
                     lambda: book.grow(0, ("sun", "w1")), lambda: book.pour([("+", ("sun", "a"), 1)]),
                     lambda: book.keep((0, 2)), lambda: book.forget((1, 1)), lambda: book.pour([("-", ("mon", "a"), 5)])]:
            deed()
            self.holds(view, book, (0, 2), picks)
        view.back()
        self.holds(view, book, (0, 3), picks[:2])
        book.regroup(0, 0, "sun", "w2")
        book.regroup(0, 0, "mon", "w2")
        self.holds(view, book, (0, 3), picks[:2])
        self.assertEqual(view.cells(), [])
        view.back()
        self.refused_by(view, NoValue, view.drill, 0, "w1")
        view.back()
        self.holds(view, book, (2, 3), [])
        self.refused_by(view, NoGrain, view.back)

    def test_a_line_grown_can_be_drilled_into(self):
        book = some_book()
        view = View(book)
        view.drill(0, None)
        self.refused_by(view, NoValue, view.drill, 0, "w3")
        book.grow(0, ("sun", "w3"))
        view.drill(0, "w3")
        self.holds(view, book, (0, 3), [(0, 2, None), (0, 1, "w3")])

    def test_two_views_of_one_book(self):
        book = some_book()
        one, other = View(book), View(book)
        one.drill(0, None)
        other.drill(1, None)
        other.drill(1, "x")
        self.holds(one, book, (1, 3), [(0, 2, None)])
        self.holds(other, book, (2, 1), [(1, 3, None), (1, 2, "x")])
        one.back()
        self.holds(one, book, (2, 3), [])
        self.holds(other, book, (2, 1), [(1, 3, None), (1, 2, "x")])

    def test_told_lists_are_the_askers_own(self):
        view = View(some_book())
        view.drill(0, None)
        self.own_each_time(view.picks)
        self.own_each_time(view.cells)
        view.back()
        self.own_each_time(view.picks)

    def test_walks_of_all_kinds(self):
        source = source_of(17)
        for number in range(60):
            ladders = random_ladders(source)
            book = Book(ladders)
            book.pour([("+",) + row for row in random_rows(source, ladders, 20)])
            view = View(book)
            steps = [(tuple(whole(ladder) for ladder in ladders), [])]
            for step in range(20):
                self.walk_on(source, view, ladders, steps)
                self.holds(view, book, steps[-1][0], steps[-1][1])

    def walk_on(self, source, view, ladders, steps):
        grain, picks = steps[-1]
        axis = source.randrange(len(ladders))
        level = grain[axis]
        deed = source.choice(["drill", "drill", "drill", "roll", "back"])
        if deed == "drill":
            value = at(ladders[axis], source.choice(finest_values(ladders[axis])), level)
            if level == 0:
                self.refused_by(view, NoGrain, view.drill, axis, value)
                return
            self.drilled_cells_hold_together(view, axis, value)
            steps.append((grain[:axis] + (level - 1,) + grain[axis + 1:], picks + [(axis, level, value)]))
        elif deed == "roll":
            if level == whole(ladders[axis]):
                self.refused_by(view, NoGrain, view.roll, axis)
                return
            view.roll(axis)
            steps.append((grain[:axis] + (level + 1,) + grain[axis + 1:], picks))
        elif len(steps) > 1:
            view.back()
            steps.pop()
        else:
            self.refused_by(view, NoGrain, view.back)

    # The cells behind a drilling, merged, are the cells of that value ahead, merged.
    def drilled_cells_hold_together(self, view, axis, value):
        ahead = [cell for key, cell in view.cells() if key[axis] == value]
        view.drill(axis, value)
        behind = [cell for key, cell in view.cells()]
        self.assertEqual(ahead == [], behind == [])
        if ahead:
            self.assertEqual(merged(ahead), merged(behind))


if __name__ == "__main__":
    unittest.main()
