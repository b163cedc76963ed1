import itertools
import unittest

from aids import LADDERS, MANY, Asserts, at, finest_values, random_ladder, source_of, whole
from cubebook.flows import fewest, fewest_paths

WEEKS = [("mon", "w1"), ("tue", "w1"), ("wed", "w1"), ("thu", "w2"), ("fri", "w2")]


def costs_of(ladder, levels, cost):
    return {(level, at(ladder, finest, level)): cost(level, at(ladder, finest, level))
            for level in levels for finest in finest_values(ladder)}


def is_through(ladder, pair, one, other):
    lies = [end is not None and at(ladder, end, pair[0]) == pair[1] for end in (one, other)]
    return lies[0] != lies[1]


# What right signs cost at least, by a walk over all of them: the finest values' signs follow from the others.
def least_of_all(ladder, costs, picked):
    upper = [pair for pair in costs if pair[0] > 0]
    best = None
    for signs in itertools.product([-2, -1, 0, 1, 2], repeat=len(upper)):
        given = dict(zip(upper, signs))
        cost = sum(costs[pair] * abs(sign) for pair, sign in given.items())
        for finest in finest_values(ladder):
            so_far = sum(sign for pair, sign in given.items() if at(ladder, finest, pair[0]) == pair[1])
            cost += costs[(0, finest)] * abs((finest in picked) - so_far)
        best = cost if best is None else min(best, cost)
    return best


class FlowsTest(unittest.TestCase, Asserts):
    def told(self, ladder, costs, picked):
        signs = self.asked(fewest, ladder, costs, picked)
        paths = self.asked(fewest_paths, ladder, costs, picked)
        self.signs_are_right(ladder, costs, picked, signs)
        self.paths_keep_within(ladder, costs, picked, paths)
        cost = sum(costs[(level, value)] for sign, level, value in signs)
        self.assertEqual(sum(times for one, other, times in paths), cost)
        return cost

    def signs_are_right(self, ladder, costs, picked, signs):
        self.assertIs(type(signs), list)
        for tup in signs:
            self.assertIs(type(tup), tuple)
            sign, level, value = tup
            self.assertIn(sign, (1, -1))
            self.assertEqual((type(sign), type(level)), (int, int))
            self.assertIn((level, value), costs)
        for finest in finest_values(ladder):
            come_to = sum(sign for sign, level, value in signs if at(ladder, finest, level) == value)
            self.assertEqual(come_to, 1 if finest in picked else 0)

    def paths_keep_within(self, ladder, costs, picked, paths):
        self.assertIs(type(paths), list)
        for path in paths:
            self.assertIs(type(path), tuple)
            one, other, times = path
            self.assertIn(one, picked)
            self.assertTrue(other is None or other in finest_values(ladder) and other not in picked)
            self.assertIs(type(times), int)
            self.assertGreaterEqual(times, 1)
        for pair in costs:
            through = sum(times for one, other, times in paths if is_through(ladder, pair, one, other))
            self.assertLessEqual(through, costs[pair])

    def test_level_nought_alone(self):
        for ladder in LADDERS:
            costs = costs_of(ladder, [0], lambda level, value: 3)
            for many in range(len(ladder) + 1):
                self.assertEqual(self.told(ladder, costs, finest_values(ladder)[:many]), 3 * many)

    def test_as_written(self):
        costs = costs_of(WEEKS, [0, 1], lambda level, value: 1)
        self.assertEqual(fewest(WEEKS, costs, ["mon", "tue", "wed"]), [(1, 1, "w1")])
        self.assertEqual(sorted(fewest(WEEKS, costs, ["mon", "tue"])),
                         sorted(fewest(WEEKS, costs, ["tue", "mon"])))
        self.assertEqual(self.told(WEEKS, costs, ["mon", "tue"]), 2)
        self.assertEqual(self.told(WEEKS, costs, ["mon"]), 1)
        self.assertEqual(self.told(WEEKS, costs, ["mon", "tue", "wed", "fri"]), 2)
        costs[(2, None)] = 1
        self.assertEqual(self.told(WEEKS, costs, ["mon", "tue", "wed", "fri"]), 2)
        self.assertEqual(self.told(WEEKS, costs, ["tue", "mon", "thu", "wed", "fri"]), 1)
        self.assertEqual(fewest(WEEKS, costs, finest_values(WEEKS)), [(1, 2, None)])

    def test_a_costly_value_is_gone_round(self):
        costs = costs_of(WEEKS, [0, 1, 2], lambda level, value: 5)
        costs[(0, "mon")] = 100
        self.assertEqual(self.told(WEEKS, costs, ["mon"]), 15)
        costs[(1, "w1")] = 1000
        self.assertEqual(self.told(WEEKS, costs, ["mon"]), 20)
        costs[(2, None)] = 1000
        self.assertEqual(self.told(WEEKS, costs, ["mon"]), 100)

    def test_nothing_picked(self):
        for ladder in LADDERS:
            for cost in [0, 1, MANY]:
                costs = costs_of(ladder, range(whole(ladder) + 1), lambda level, value: cost)
                self.assertEqual(self.told(ladder, costs, []), 0)
                self.assertEqual(fewest_paths(ladder, costs, []), [])

    def test_costs_of_nought(self):
        for ladder in LADDERS:
            costs = costs_of(ladder, range(whole(ladder) + 1), lambda level, value: 0)
            for many in range(len(ladder) + 1):
                self.assertEqual(self.told(ladder, costs, finest_values(ladder)[:many]), 0)
                self.assertEqual(fewest_paths(ladder, costs, finest_values(ladder)[:many]), [])

    def test_the_same_value_at_unlike_levels(self):
        ladder = [("a", "a", "a"), ("b", "a", "a"), ("c", "b", "b"), ("d", "b", "b")]
        source = source_of(11)
        for number in range(200):
            costs = costs_of(ladder, [0, 1, 2, 3], lambda level, value: source.randint(0, 4))
            picked = [finest for finest in "abcd" if source.random() < 0.5]
            self.assertEqual(self.told(ladder, costs, picked), least_of_all(ladder, costs, picked))

    def test_held_against_all_right_signs(self):
        source = source_of(12)
        for number in range(400):
            ladder = random_ladder(source, source.randint(1, 6), source.randint(1, 4))
            levels = [0] + [level for level in range(1, whole(ladder) + 1) if source.random() < 0.7]
            most = source.choice([1, 3, 9, MANY])
            costs = costs_of(ladder, levels, lambda level, value: source.randint(0, most))
            if len([pair for pair in costs if pair[0] > 0]) <= 4:
                picked = [finest for finest in finest_values(ladder) if source.random() < 0.6]
                source.shuffle(picked)
                self.assertEqual(self.told(ladder, costs, picked), least_of_all(ladder, costs, picked))

    def test_ladders_of_all_kinds(self):
        source = source_of(13)
        for number in range(600):
            ladder = random_ladder(source, source.choice([1, 2, 5, 12, 40]), source.randint(1, 4))
            levels = [0] + [level for level in range(1, whole(ladder) + 1) if source.random() < 0.7]
            costs = costs_of(ladder, levels, lambda level, value: source.choice([0, 1, 2, 9, source.randint(0, MANY)]))
            picked = source.sample(finest_values(ladder), source.randint(0, len(ladder)))
            cost = self.told(ladder, costs, picked)
            pairs = list(costs.items())
            source.shuffle(pairs)
            source.shuffle(picked)
            self.assertEqual(self.told(ladder, dict(pairs), picked), cost)

    def test_told_lists_are_the_askers_own(self):
        costs = costs_of(WEEKS, [0, 1, 2], lambda level, value: 2)
        for picked in [[], ["mon"], ["mon", "tue"], finest_values(WEEKS)]:
            self.own_each_time(fewest, WEEKS, costs, picked)
            self.own_each_time(fewest_paths, WEEKS, costs, picked)


if __name__ == "__main__":
    unittest.main()
