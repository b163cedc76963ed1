import itertools
import unittest

from aids import MANY, Asserts
from cubebook.cells import cell_of, merged, taken

LISTS = [[5], [0], [-7], [MANY], [-MANY], [3, 3], [3, 3, 3], [1, 2, 3], [3, 2, 1], [-5, 0, 5], [0, 0, 0], [4, -4],
         [2, 2, 7, 7, 5, 5], [MANY, -MANY, 1], [MANY, MANY, MANY], [9, 1, 9, 1, 5], list(range(-20, 21))]


class CellsTest(unittest.TestCase, Asserts):
    def is_cell(self, cell):
        self.assertIs(type(cell), tuple)
        self.assertEqual([type(part) for part in cell], [int] * 4)

    def test_as_written(self):
        self.assertEqual(cell_of([5]), (1, 5, 5, 5))
        self.assertEqual(cell_of([20, -4, 9]), (3, 25, -4, 20))
        self.assertEqual(cell_of([4, -4]), (2, 0, -4, 4))
        self.assertEqual(cell_of([MANY] * 200), (200, 200 * MANY, MANY, MANY))

    def test_each_list(self):
        for amounts in LISTS:
            cell = self.asked(cell_of, amounts)
            self.is_cell(cell)
            self.assertEqual(cell, (len(amounts), sum(amounts), sorted(amounts)[0], sorted(amounts)[-1]))
            self.assertEqual(cell_of(amounts[::-1]), cell)

    def test_merged_either_way_round(self):
        for one, other in itertools.product(LISTS, repeat=2):
            cell = merged(cell_of(one), cell_of(other))
            self.is_cell(cell)
            self.assertEqual(cell, cell_of(one + other))
            self.assertEqual(merged(cell_of(other), cell_of(one)), cell)

    def test_merged_three_in_any_way(self):
        for one, other, third in itertools.product(LISTS[:9], repeat=3):
            cell = merged(merged(cell_of(one), cell_of(other)), cell_of(third))
            self.assertEqual(merged(cell_of(one), merged(cell_of(other), cell_of(third))), cell)

    def test_each_amount_taken_out(self):
        for amounts in LISTS:
            for place, amount in enumerate(amounts):
                if len(amounts) > 1:
                    left = amounts[:place] + amounts[place + 1:]
                    cell = taken(cell_of(amounts), amount)
                    if amount in (min(amounts), max(amounts)):
                        self.assertIsNone(cell)
                    else:
                        self.is_cell(cell)
                        self.assertEqual(cell, cell_of(left))

    def test_taken_as_written(self):
        self.assertEqual(taken((3, 6, 1, 3), 2), (2, 4, 1, 3))
        for amount in [1, 3]:
            self.assertIsNone(taken((3, 6, 1, 3), amount))
        self.assertIsNone(taken(cell_of([1, 1, 2, 3]), 1))
        self.assertIsNone(taken(cell_of([1, 2, 3, 3]), 3))
        self.assertIsNone(taken(cell_of([4, 4]), 4))
        self.assertIsNone(taken(cell_of([1, 5]), 1))
        self.assertIsNone(taken(cell_of([1, 5]), 5))


if __name__ == "__main__":
    unittest.main()
