import itertools
import unittest

import aids
from aids import (LADDER_SETS, Asserts, answers, grains_of, random_grain, random_ladders, random_picks, random_rows,
                  source_of, whole)
from cubebook.errors import NoGrain
from cubebook.reads import cells_read, read

DAYS = [("mon", "w1"), ("tue", "w1"), ("wed", "w2"), ("thu", "w2"), (7, "w3")]
SHOPS = [(1, "t1", "x"), (2, "t1", "x"), (3, "t2", "x"), (4, "t3", "y"), (5, "t3", "y")]
PAIR = [DAYS, SHOPS]
ROWS = [(("mon", 1), 5), (("tue", 1), 6), (("mon", 2), -7), (("wed", 4), 1), ((7, 5), 3), ((7, 5), -3), (("thu", 3), 2)]


class ReadsTest(unittest.TestCase, Asserts):
    def told(self, ladders, rows, kept, grain, picks):
        table = aids.table_of(ladders, rows, kept)
        if answers(ladders, kept, grain, picks):
            wanted = aids.table_of(ladders, aids.picked_rows(ladders, rows, picks), grain)
            self.assertEqual(self.asked(read, ladders, table, kept, grain, picks), wanted)
        else:
            self.refused(NoGrain, read, ladders, table, kept, grain, picks)
        wholes = tuple(whole(ladder) for ladder in ladders)
        if answers(ladders, kept, wholes, picks):
            many = self.asked(cells_read, ladders, table, kept, picks)
            self.assertIs(type(many), int)
            self.assertEqual(many, aids.cells_read(ladders, rows, kept, picks))

    def test_as_written(self):
        table = aids.table_of(PAIR, ROWS, (1, 1))
        picks = [(0, 0, ["mon", "tue", 7])]
        self.assertEqual(self.asked(read, PAIR, table, (1, 1), (1, 2), picks),
                         [(("w1", "x"), (3, 4, -7, 6)), (("w3", "y"), (2, 0, -3, 3))])
        self.assertEqual(read(PAIR, table, (1, 1), (2, 3), picks), [((None, None), (5, 4, -7, 6))])
        self.assertEqual(cells_read(PAIR, table, (1, 1), picks), 2)
        self.assertEqual(cells_read(PAIR, table, (1, 1), []), 4)
        self.refused(NoGrain, read, PAIR, table, (1, 1), (0, 2), picks)
        self.refused(NoGrain, read, PAIR, table, (1, 1), (1, 2), [(0, 0, ["mon"])])

    def test_a_finer_question_of_one_value_beneath(self):
        table = aids.table_of(PAIR, ROWS, (1, 3))
        self.assertEqual(read(PAIR, table, (1, 3), (0, 3), [(0, 0, [7])]), [((7, None), (2, 0, -3, 3))])

    def test_nothing_picked(self):
        for kept, grain in itertools.product(grains_of(PAIR), repeat=2):
            table = aids.table_of(PAIR, ROWS, kept)
            for picks in [[(0, 0, [])], [(1, 2, ["x"]), (1, 2, ["y"])], [(0, 0, ["mon"]), (1, 0, [99])]]:
                self.assertEqual(self.asked(read, PAIR, table, kept, grain, picks), [])
                self.assertEqual(cells_read(PAIR, table, kept, picks), 0)

    def test_no_rows(self):
        for kept, grain in itertools.product(grains_of(PAIR), repeat=2):
            self.told(PAIR, [], kept, grain, [])
            self.told(PAIR, [], kept, grain, [(0, 0, ["mon"])])

    def test_each_two_grains_of_the_sample_ladders(self):
        source = source_of(9)
        for ladders in LADDER_SETS[:6]:
            rows = random_rows(source, ladders, 10)
            for kept, grain in itertools.product(grains_of(ladders), repeat=2):
                self.told(ladders, rows, kept, grain, random_picks(source, ladders))
                self.told(ladders, rows, kept, grain, [])

    def test_questions_of_all_kinds(self):
        source = source_of(10)
        for number in range(1200):
            ladders = random_ladders(source, 5)
            rows = random_rows(source, ladders, source.randint(0, 25))
            kept = random_grain(source, ladders)
            grain = source.choice([kept, random_grain(source, ladders)])
            self.told(ladders, rows, kept, grain, random_picks(source, ladders, 3))

    def test_the_told_list_is_the_askers_own(self):
        table = aids.table_of(PAIR, ROWS, (0, 0))
        for grain in [(0, 0), (1, 1), (2, 3)]:
            for picks in [[], [(0, 1, ["w1"])], [(0, 0, [])]]:
                self.own_each_time(read, PAIR, table, (0, 0), grain, picks)


if __name__ == "__main__":
    unittest.main()
