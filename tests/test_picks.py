import unittest

from aids import (ANY_THINGS, LADDER_SETS, LADDERS, NO_VALUES, VALUES, Asserts, finest_values, is_picked, random_ladders,
                  random_picks, sorted_values, source_of, whole)
from cubebook.picks import is_picks, picked

PAIR = [LADDERS[1], LADDERS[2]]


class IsPicksTest(unittest.TestCase, Asserts):
    def told(self, truth, ladders, thing):
        self.is_truth(truth, self.asked(is_picks, ladders, thing))

    # A pick alone, and among others that are right.
    def told_of_pick(self, truth, ladders, pick):
        self.told(truth, ladders, [pick])
        self.told(truth, ladders, [(0, 0, ["a"]), pick])
        self.told(truth, ladders, [pick, (0, 1, (None,))])

    def test_no_picks_and_several(self):
        for ladders in LADDER_SETS:
            self.told(True, ladders, [])
            picks = [(axis, level, ["a", 1, None]) for axis, ladder in enumerate(ladders)
                     for level in range(whole(ladder) + 1)]
            self.told(True, ladders, picks)
            self.told(True, ladders, picks + picks)

    def test_axes(self):
        for ladders in LADDER_SETS:
            for axis in range(len(ladders)):
                self.told_of_pick(True, ladders, (axis, 0, ["a"]))
            for axis in [-1, -2, len(ladders), len(ladders) + 1, True, False, None, "a", "0", [0], (0,), [], 10 ** 50]:
                self.told_of_pick(False, ladders, (axis, 0, ["a"]))

    def test_levels(self):
        for ladders in LADDER_SETS:
            for axis, ladder in enumerate(ladders):
                for level in range(whole(ladder) + 1):
                    self.told_of_pick(True, ladders, (axis, level, ["a"]))
                for level in [-1, whole(ladder) + 1, 9, True, False, None, "a", "0", [0], (0,), [], 10 ** 50]:
                    self.told_of_pick(False, ladders, (axis, level, ["a"]))

    def test_values(self):
        for wrap in [list, tuple]:
            self.told_of_pick(True, PAIR, (1, 2, wrap([])))
            self.told_of_pick(True, PAIR, (1, 2, wrap([None])))
            self.told_of_pick(True, PAIR, (1, 2, wrap(VALUES + [None])))
            for value in VALUES:
                self.told_of_pick(True, PAIR, (0, 0, wrap([value])))
            for thing in NO_VALUES:
                self.told_of_pick(False, PAIR, (1, 2, wrap([thing])))
                self.told_of_pick(False, PAIR, (1, 2, wrap(["a", thing, 1])))

    def test_things_in_the_place_of_the_values(self):
        for thing in ["", "a", "ab", 0, 1, -3, None, True, False]:
            self.told_of_pick(False, PAIR, (0, 0, thing))

    def test_things_in_the_place_of_a_pick(self):
        for pick in [[0, 0, ["a"]], (0, 0), (0,), (), (0, 0, ["a"], 1), (0, 0, ["a"], ["a"]), (["a"], 0, 0),
                     ((0, 0, ["a"]),)]:
            self.told_of_pick(False, PAIR, pick)
        for thing in ANY_THINGS:
            self.told_of_pick(False, PAIR, thing)

    def test_things_in_the_place_of_the_list(self):
        self.told(False, PAIR, ((0, 0, ["a"]),))
        self.told(False, PAIR, (0, 0, ["a"]))
        self.told(False, PAIR, ())
        for thing in ANY_THINGS:
            self.told(thing in [[]], PAIR, thing)


class PickedTest(unittest.TestCase, Asserts):
    def told(self, ladders, picks, axis, wanted):
        self.assertEqual(self.asked(picked, ladders, picks, axis), wanted)

    def test_no_pick_of_the_axis(self):
        for ladders in LADDER_SETS:
            for axis, ladder in enumerate(ladders):
                self.told(ladders, [], axis, sorted_values(finest_values(ladder)))
                others = [(other, 0, []) for other in range(len(ladders)) if other != axis]
                self.told(ladders, others, axis, sorted_values(finest_values(ladder)))

    def test_one_pick(self):
        for wrap in [list, tuple]:
            self.told(PAIR, [(0, 0, wrap(["wed", 1, "mon"]))], 0, [1, "mon", "wed"])
            self.told(PAIR, [(0, 1, wrap(["w1"]))], 0, [3, "tue", "wed"])
            self.told(PAIR, [(0, 1, wrap([5, 2]))], 0, [1, 2, "mon"])
            self.told(PAIR, [(1, 2, wrap([1]))], 1, [5, "a", "b", "x"])
            self.told(PAIR, [(1, 2, wrap([]))], 1, [])

    def test_two_picks_that_meet(self):
        self.told(PAIR, [(0, 1, ["w1", 5]), (0, 0, [3, 2, "mon"])], 0, [2, 3])
        self.told(PAIR, [(0, 0, [3, 2, "mon"]), (1, 0, ["a"]), (0, 1, ("w1", 5))], 0, [2, 3])
        self.told(PAIR, [(0, 0, [3, 2]), (0, 0, [2, 1])], 0, [2])

    def test_two_picks_that_contradict_each_other(self):
        self.told(PAIR, [(0, 1, ["w1"]), (0, 1, [2])], 0, [])
        self.told(PAIR, [(0, 0, ["mon"]), (0, 1, ["w1"])], 0, [])
        self.told(PAIR, [(0, 2, [None]), (0, 2, ["mon"])], 0, [])

    def test_values_that_no_line_has(self):
        self.told(PAIR, [(0, 0, ["nowhere", 99, None, "w1"])], 0, [])
        self.told(PAIR, [(0, 1, ["mon", "tue", None])], 0, [])
        self.told(PAIR, [(0, 1, ["nowhere", 5])], 0, [2])

    def test_the_whole(self):
        for ladders in LADDER_SETS:
            for axis, ladder in enumerate(ladders):
                self.told(ladders, [(axis, whole(ladder), [None])], axis, sorted_values(finest_values(ladder)))
                self.told(ladders, [(axis, whole(ladder), ("a", None))], axis, sorted_values(finest_values(ladder)))
                self.told(ladders, [(axis, whole(ladder), finest_values(ladder))], axis, [])
                self.told(ladders, [(axis, whole(ladder), [])], axis, [])

    def test_held_against_the_lines(self):
        source = source_of(3)
        for number in range(400):
            ladders = random_ladders(source)
            picks = random_picks(source, ladders, 6)
            for axis, ladder in enumerate(ladders):
                wanted = [finest for finest in finest_values(ladder) if is_picked(ladders, picks, axis, finest)]
                self.told(ladders, picks, axis, sorted_values(wanted))

    def test_the_told_list_is_the_askers_own(self):
        for picks in [[], [(0, 1, ["w1"])], [(0, 0, [])]]:
            self.own_each_time(picked, PAIR, picks, 0)
        values = ["w1"]
        picks = [(0, 1, values)]
        told = picked(PAIR, picks, 0)
        values.append(5)
        self.assertEqual(told, [3, "tue", "wed"])
        self.told(PAIR, picks, 0, [2, 3, "tue", "wed"])


if __name__ == "__main__":
    unittest.main()
