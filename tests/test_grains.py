import itertools
import unittest

from aids import ANY_THINGS, LADDER_SETS, Asserts, grains_of, whole
from cubebook.grains import all_grains, as_fine, finest, is_grain, join, meet

NO_LEVELS = [-1, -5, True, False, None, "a", "0", "", [0], (0,), [], (), 10 ** 50]


class IsGrainTest(unittest.TestCase, Asserts):
    def told(self, truth, ladders, thing):
        self.is_truth(truth, self.asked(is_grain, ladders, thing))

    def test_each_grain(self):
        for ladders in LADDER_SETS:
            for grain in grains_of(ladders):
                self.told(True, ladders, grain)

    def test_a_thing_that_is_no_level_at_each_place(self):
        for ladders in LADDER_SETS:
            for place, ladder in enumerate(ladders):
                for thing in NO_LEVELS + [whole(ladder) + 1, whole(ladder) + 2]:
                    for level in [0, 1]:
                        levels = [level] * len(ladders)
                        levels[place] = thing
                        self.told(False, ladders, tuple(levels))
                levels = [0] * len(ladders)
                levels[place] = whole(ladder)
                self.told(True, ladders, tuple(levels))

    def test_a_level_more_or_less(self):
        for ladders in LADDER_SETS:
            for many in range(7):
                self.told(many == len(ladders), ladders, (0,) * many)
                self.told(many == len(ladders), ladders, (1,) * many)

    def test_what_is_no_tuple(self):
        for ladders in LADDER_SETS:
            self.told(False, ladders, [0] * len(ladders))
            for thing in ANY_THINGS:
                self.told(thing == (1,) and len(ladders) == 1, ladders, thing)

    def test_truths_are_no_levels(self):
        self.told(False, LADDER_SETS[1], (True,))
        self.told(False, LADDER_SETS[1], (False,))
        self.told(False, LADDER_SETS[4], (0, True))


class OrderOfGrainsTest(unittest.TestCase, Asserts):
    def test_finest(self):
        for ladders in LADDER_SETS:
            self.assertEqual(self.asked(finest, ladders), (0,) * len(ladders))

    def test_each_two_grains(self):
        for length in range(1, 5):
            grains = list(itertools.product(range(5 if length < 3 else 3), repeat=length))
            for one, other in itertools.product(grains, repeat=2):
                pairs = list(zip(one, other))
                self.is_truth(all(level <= above for level, above in pairs), as_fine(one, other))
                self.assertEqual(meet(one, other), tuple(min(pair) for pair in pairs))
                self.assertEqual(join(one, other), tuple(max(pair) for pair in pairs))

    def test_as_written(self):
        self.is_truth(True, as_fine((1, 2), (1, 2)))
        self.is_truth(True, as_fine((1, 2), (1, 3)))
        self.is_truth(False, as_fine((1, 3), (1, 2)))
        self.is_truth(False, as_fine((0, 3), (3, 0)))
        self.is_truth(False, as_fine((3, 0), (0, 3)))
        self.assertEqual(meet((0, 3, 1), (3, 0, 1)), (0, 0, 1))
        self.assertEqual(join((0, 3, 1), (3, 0, 1)), (3, 3, 1))


class AllGrainsTest(unittest.TestCase, Asserts):
    def test_each_once_in_order(self):
        for ladders in LADDER_SETS:
            told = self.asked(all_grains, ladders)
            self.assertEqual(told, grains_of(ladders))
            self.assertIs(type(told), list)
            for grain in told:
                self.assertIs(type(grain), tuple)
                self.assertEqual({type(level) for level in grain}, {int})

    def test_as_written(self):
        self.assertEqual(all_grains([[("a",)]]), [(0,), (1,)])
        self.assertEqual(all_grains([[("a",)], [(1, 2)]]), [(0, 0), (0, 1), (0, 2), (1, 0), (1, 1), (1, 2)])

    def test_as_many_as_the_levels_multiplied(self):
        four = [[(1, 1, 1, 1)]] * 4
        self.assertEqual(len(all_grains(four)), 625)
        self.assertEqual(len(set(all_grains(four))), 625)

    def test_the_told_list_is_the_askers_own(self):
        for ladders in LADDER_SETS:
            self.own_each_time(all_grains, ladders)


if __name__ == "__main__":
    unittest.main()
