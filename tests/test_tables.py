import itertools
import unittest

import aids
from aids import (LADDER_SETS, LADDERS, MANY, Asserts, finest_keys, grains_of, random_grain, random_ladders, random_rows,
                  source_of, whole)
from cubebook.errors import NoGrain
from cubebook.tables import key_at, rolled, table_of

PAIR = [[("mon", "w1"), (3, "w1"), ("tue", 2)], [("b", "t", 1), ("a", "t", 1), (5, 9, 1)]]
ROWS = [(("tue", 5), 4), ((3, "a"), -4), (("mon", "a"), 7), (("tue", 5), -4), (("mon", "b"), 7), ((3, "a"), 20)]


class KeyAtTest(unittest.TestCase, Asserts):
    def test_as_written(self):
        self.assertEqual(key_at(PAIR, ("mon", "a"), (0, 0)), ("mon", "a"))
        self.assertEqual(key_at(PAIR, ("mon", "a"), (1, 2)), ("w1", 1))
        self.assertEqual(key_at(PAIR, ("tue", 5), (2, 1)), (None, 9))
        self.assertEqual(key_at(PAIR, ("tue", 5), (2, 3)), (None, None))

    def test_each_grain(self):
        for ladders in LADDER_SETS:
            for key in finest_keys(ladders)[::11]:
                for grain in grains_of(ladders):
                    told = self.asked(key_at, ladders, key, grain)
                    self.assertIs(type(told), tuple)
                    self.assertEqual(told, aids.key_at(ladders, key, grain))


class TableOfTest(unittest.TestCase, Asserts):
    def told(self, ladders, rows, grain):
        table = self.asked(table_of, ladders, rows, grain)
        self.assertIs(type(table), list)
        self.assertEqual(table, aids.table_of(ladders, rows, grain))
        for line in table:
            self.assertEqual([type(part) for part in line], [tuple, tuple])
        return table

    def test_as_written(self):
        self.assertEqual(table_of(PAIR, ROWS, (1, 1)),
                         [((2, 9), (2, 0, -4, 4)), (("w1", "t"), (4, 30, -4, 20))])
        self.assertEqual(table_of(PAIR, ROWS, (0, 3)),
                         [((3, None), (2, 16, -4, 20)), (("mon", None), (2, 14, 7, 7)), (("tue", None), (2, 0, -4, 4))])
        self.assertEqual(table_of(PAIR, ROWS, (2, 3)), [((None, None), (6, 30, -4, 20))])
        self.assertEqual([key for key, cell in table_of(PAIR, ROWS, (0, 0))],
                         [(3, "a"), ("mon", "a"), ("mon", "b"), ("tue", 5)])

    def test_no_rows_and_one(self):
        for ladders in LADDER_SETS:
            for grain in grains_of(ladders):
                self.assertEqual(self.asked(table_of, ladders, [], grain), [])
                key = finest_keys(ladders)[-1]
                for amount in [0, -3, MANY]:
                    self.assertEqual(table_of(ladders, [(key, amount)], grain),
                                     [(aids.key_at(ladders, key, grain), (1, amount, amount, amount))])

    def test_several_rows_with_one_key(self):
        rows = [(("mon", "a"), amount) for amount in [5, 5, -5, -5, 0]]
        for grain in grains_of(PAIR):
            self.assertEqual([cell for key, cell in self.told(PAIR, rows, grain)], [(5, 0, -5, 5)])

    def test_each_grain_of_the_sample_ladders(self):
        source = source_of(6)
        for ladders in LADDER_SETS:
            for many in [1, 3, 25]:
                rows = random_rows(source, ladders, many)
                for grain in grains_of(ladders):
                    self.told(ladders, rows, grain)

    def test_keys_in_order(self):
        for ladder in LADDERS:
            rows = [((line[0],), 1) for line in ladder]
            for level in range(whole(ladder) + 1):
                keys = [key for key, cell in self.told([ladder], rows, (level,))]
                self.assertEqual(keys, [(value,) for value in aids.sorted_values(
                    [aids.at(ladder, line[0], level) for line in ladder])])

    def test_two_hundred_rows_of_many_figures(self):
        rows = [(key, amount) for key in finest_keys(PAIR) for amount in [MANY] * 11 + [-MANY] * 11]
        for grain in grains_of(PAIR):
            self.told(PAIR, rows, grain)

    def test_the_told_list_is_the_askers_own(self):
        self.own_each_time(table_of, PAIR, ROWS, (1, 1))
        self.own_each_time(table_of, PAIR, [], (1, 1))
        rows = list(ROWS)
        told = table_of(PAIR, rows, (2, 3))
        rows.clear()
        self.assertEqual(told, [((None, None), (6, 30, -4, 20))])
        self.assertEqual(table_of(PAIR, rows, (2, 3)), [])


class RolledTest(unittest.TestCase, Asserts):
    def told(self, ladders, rows, grain, to):
        table = aids.table_of(ladders, rows, grain)
        if all(level <= other for level, other in zip(grain, to)):
            self.assertEqual(self.asked(rolled, ladders, table, grain, to), aids.table_of(ladders, rows, to))
        else:
            self.refused(NoGrain, rolled, ladders, table, grain, to)

    def test_as_written(self):
        table = [((3, "t"), (2, 16, -4, 20)), (("mon", "t"), (2, 14, 7, 7)), (("tue", 9), (2, 0, -4, 4))]
        self.assertEqual(self.asked(rolled, PAIR, table, (0, 1), (1, 1)),
                         [((2, 9), (2, 0, -4, 4)), (("w1", "t"), (4, 30, -4, 20))])
        self.assertEqual(rolled(PAIR, table, (0, 1), (2, 2)), [((None, 1), (6, 30, -4, 20))])
        self.assertEqual(rolled(PAIR, table, (0, 1), (0, 1)), table)

    def test_each_two_grains(self):
        source = source_of(7)
        for ladders in LADDER_SETS[:6]:
            rows = random_rows(source, ladders, 12)
            for grain, to in itertools.product(grains_of(ladders), repeat=2):
                self.told(ladders, rows, grain, to)

    def test_grains_of_many_ladders(self):
        source = source_of(8)
        for number in range(300):
            ladders = random_ladders(source)
            rows = random_rows(source, ladders, source.randint(0, 30))
            grain = random_grain(source, ladders)
            self.told(ladders, rows, grain, random_grain(source, ladders))
            between = tuple(source.randint(level, whole(ladder)) for level, ladder in zip(grain, ladders))
            to = tuple(source.randint(level, whole(ladder)) for level, ladder in zip(between, ladders))
            table = table_of(ladders, rows, grain)
            by_way = rolled(ladders, rolled(ladders, table, grain, between), between, to)
            self.assertEqual(by_way, aids.table_of(ladders, rows, to))
            self.assertEqual(by_way, rolled(ladders, table, grain, to))

    def test_no_cells(self):
        self.assertEqual(rolled(PAIR, [], (0, 0), (1, 1)), [])
        for grain, to in [((1, 1), (0, 1)), ((0, 1), (1, 0)), ((2, 3), (2, 2)), ((0, 3), (2, 0))]:
            self.refused(NoGrain, rolled, PAIR, [], grain, to)

    def test_the_told_list_is_the_askers_own(self):
        table = table_of(PAIR, ROWS, (0, 0))
        for to in [(0, 0), (1, 1), (2, 3)]:
            self.own_each_time(rolled, PAIR, table, (0, 0), to)
        told = rolled(PAIR, table, (0, 0), (0, 0))
        table.clear()
        self.assertEqual(told, aids.table_of(PAIR, ROWS, (0, 0)))


if __name__ == "__main__":
    unittest.main()
