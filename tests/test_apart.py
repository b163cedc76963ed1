import itertools
import unittest

from aids import (LADDER_SETS, Asserts, answers, at, finest_values, grains_of, is_picked, random_grain, random_ladders,
                  random_picks, sorted_values, source_of, whole)
from cubebook.apart import apart

DAYS = [("mon", "w1"), ("tue", "w1"), ("wed", "w2"), ("thu", "w2"), (7, "w3")]
SHOPS = [(1, "t1", "x"), (2, "t1", "x"), (3, "t2", "x"), (4, "t3", "y"), (5, "t3", "y")]


class ApartTest(unittest.TestCase, Asserts):
    # Each tuple is held against point 12 by the ladders, None against a look at all keys.
    def told(self, ladders, kept, grain, picks):
        two = self.asked(apart, ladders, kept, grain, picks)
        self.is_truth(two is None, answers(ladders, kept, grain, picks))
        if two is None:
            return
        self.assertIs(type(two), tuple)
        axis, one, other = two
        self.assertIs(type(axis), int)
        ladder = ladders[axis]
        self.assertIn(one, finest_values(ladder))
        self.assertIn(other, finest_values(ladder))
        self.assertNotEqual(one, other)
        self.assertEqual(at(ladder, one, kept[axis]), at(ladder, other, kept[axis]))
        picked = [is_picked(ladders, picks, axis, finest) for finest in [one, other]]
        unlike = at(ladder, one, grain[axis]) != at(ladder, other, grain[axis])
        self.assertTrue(picked[0] != picked[1] or picked[0] and unlike)

    def told_apart(self, wanted, kept, grain, picks):
        self.told([DAYS, SHOPS], kept, grain, picks)
        two = apart([DAYS, SHOPS], kept, grain, picks)
        self.assertEqual(two is None, wanted is None)
        if wanted is not None:
            self.assertEqual((two[0], sorted_values(two[1:])), wanted)

    def test_a_table_as_fine_as_the_grain_and_the_picks(self):
        for grain in grains_of([DAYS, SHOPS]):
            self.told_apart(None, (0, 0), grain, [(0, 0, ["mon"]), (1, 1, ["t1"])])
            self.told_apart(None, grain, grain, [])
            self.told_apart(None, grain, (2, 3), [])
        self.told_apart(None, (1, 1), (1, 2), [(0, 1, ["w1", "w3"]), (1, 2, ["x"])])

    def test_coarser_where_all_that_lies_beneath_is_picked(self):
        self.told_apart(None, (1, 3), (1, 3), [(0, 0, ["mon", "tue"])])
        self.told_apart(None, (1, 3), (2, 3), [(0, 0, [7, "thu", "wed"])])
        self.told_apart(None, (2, 2), (2, 3), [(1, 1, ["t1", "t2"])])
        self.told_apart(None, (1, 3), (0, 3), [(0, 0, [7])])
        self.told_apart((0, ["mon", "tue"]), (1, 3), (0, 3), [(0, 0, ["mon", "tue"])])

    def test_coarser_where_not_all_that_lies_beneath_is_picked(self):
        self.told_apart((0, ["mon", "tue"]), (1, 3), (2, 3), [(0, 0, ["mon"])])
        self.told_apart((0, ["thu", "wed"]), (1, 3), (2, 3), [(0, 0, [7, "mon", "thu", "tue"])])
        self.told_apart((1, [4, 5]), (0, 1), (0, 3), [(1, 0, (1, 2, 4))])

    def test_both_picked_but_unlike_at_the_grain(self):
        self.told_apart((0, ["mon", "tue"]), (1, 3), (0, 3), [(0, 1, ["w1"])])
        self.told_apart((1, [4, 5]), (2, 2), (2, 0), [(1, 2, ["y"])])

    def test_nothing_picked_on_some_axis(self):
        for kept, grain in itertools.product(grains_of([DAYS, SHOPS]), repeat=2):
            self.told_apart(None, kept, grain, [(0, 0, [])])
            self.told_apart(None, kept, grain, [(0, 0, ["mon"]), (1, 1, ["t1"]), (1, 1, ["t2"])])
            self.told_apart(None, kept, grain, [(1, 2, ["nowhere"]), (0, 0, ["mon"])])

    def test_the_whole_as_a_level(self):
        self.told_apart(None, (2, 3), (2, 3), [])
        self.told_apart(None, (2, 3), (2, 3), [(0, 2, [None]), (1, 3, (None,))])
        self.told_apart(None, (2, 3), (2, 3), [(0, 1, ["w1", "w2", "w3"])])
        self.assertIsNotNone(apart([DAYS, SHOPS], (2, 3), (2, 3), [(0, 1, ["w1", "w2"])]))
        self.assertIsNotNone(apart([DAYS, SHOPS], (2, 3), (1, 3), []))

    def test_the_fault_on_each_axis(self):
        for many in range(1, 5):
            ladders = [DAYS] * many
            for axis in range(many):
                kept = [0] * many
                kept[axis] = 1
                two = apart(ladders, tuple(kept), (0,) * many, [])
                self.assertEqual(two[0], axis)
                self.told(ladders, tuple(kept), (0,) * many, [])
                two = apart(ladders, (1,) * many, (2,) * many, [(axis, 0, ["mon", "wed", "thu"])])
                self.assertEqual((two[0], sorted_values(two[1:])), (axis, ["mon", "tue"]))

    def test_ladders_of_one_line(self):
        ladders = [[("a", 1)], [(2,)]]
        for kept, grain in itertools.product(grains_of(ladders), repeat=2):
            for picks in [[], [(0, 0, ["a"])], [(1, 0, [])], [(1, 1, [None]), (0, 1, [2])]]:
                self.assertIsNone(apart(ladders, kept, grain, picks))

    def test_each_two_grains_of_the_sample_ladders(self):
        source = source_of(4)
        for ladders in LADDER_SETS[:6]:
            for kept, grain in itertools.product(grains_of(ladders), repeat=2):
                for number in range(2):
                    self.told(ladders, kept, grain, random_picks(source, ladders))

    def test_questions_of_all_kinds(self):
        source = source_of(5)
        faults = 0
        for number in range(2000):
            ladders = random_ladders(source, 5)
            kept = random_grain(source, ladders)
            grain = random_grain(source, ladders)
            picks = random_picks(source, ladders)
            self.told(ladders, kept, grain, picks)
            faults += apart(ladders, kept, grain, picks) is not None
        self.assertTrue(200 < faults < 1800)

    def test_forty_lines(self):
        ladder = [(number, number // 2, number // 8) for number in range(40)]
        for level, values in [(0, list(range(39))), (1, list(range(18))), (2, [0, 3]), (0, [39]), (0, list(range(40)))]:
            for kept, grain in itertools.product(range(4), repeat=2):
                self.told([ladder], (kept,), (grain,), [(0, level, values)])

    def test_asked_again_behind_another_question(self):
        ladders = [list(DAYS), list(SHOPS)]
        picks = [(0, 0, ["mon"])]
        self.assertIsNotNone(apart(ladders, (1, 0), (2, 3), picks))
        self.assertIsNone(apart(ladders, (0, 0), (2, 3), picks))
        self.assertIsNotNone(apart(ladders, (1, 0), (2, 3), picks))
        picks[0][2].append("tue")
        self.assertIsNone(apart(ladders, (1, 0), (2, 3), picks))
        ladders[0].append(("sun", "w1"))
        self.assertIsNotNone(apart(ladders, (1, 0), (2, 3), picks))
        self.assertEqual(whole(ladders[0]), 2)


if __name__ == "__main__":
    unittest.main()
