import itertools
import unittest

from aids import (ANY_THINGS, LADDERS, MANY, NO_VALUES, VALUES, Asserts, at, finest_values, random_ladder, sorted_values,
                  source_of, whole)
from cubebook.ladders import beneath, is_ladder, is_line, up, values_at, whole_of


def ladder_of(many):
    return [(number, number % 7, "all") for number in range(many)]


class LineTest(unittest.TestCase, Asserts):
    def test_one_to_four_values(self):
        for length in range(7):
            for value in VALUES:
                self.is_truth(1 <= length <= 4, self.asked(is_line, (value,) * length))

    def test_values_of_each_kind_together(self):
        for line in itertools.permutations([3, "a", -MANY, "z9"]):
            self.is_truth(True, is_line(line))

    def test_a_list_is_no_line(self):
        for length in range(7):
            self.is_truth(False, self.asked(is_line, ["a"] * length))

    def test_a_thing_that_is_no_value_at_each_place(self):
        for length in range(1, 5):
            for place in range(length):
                for thing in NO_VALUES + [None]:
                    line = ("a",) * place + (thing,) + (1,) * (length - place - 1)
                    self.is_truth(False, self.asked(is_line, line))

    def test_things_that_are_no_tuples(self):
        for thing in ANY_THINGS:
            if not isinstance(thing, tuple):
                self.is_truth(False, self.asked(is_line, thing))


class IsLadderTest(unittest.TestCase, Asserts):
    def told(self, truth, thing):
        self.is_truth(truth, self.asked(is_ladder, thing))

    def test_sample_ladders(self):
        for ladder in LADDERS:
            for order in itertools.islice(itertools.permutations(ladder), 0, None, 97):
                self.told(True, list(order))

    def test_how_many_lines(self):
        for many in [0, 1, 2, 39, 40, 41, 42, 100]:
            self.told(1 <= many <= 40, ladder_of(many))
            self.told(1 <= many <= 40, [(number,) for number in range(many)])

    def test_lines_of_unlike_lengths(self):
        for one, other in itertools.product(range(1, 5), repeat=2):
            lines = [tuple(range(one)), tuple(range(10, 10 + other))]
            self.told(one == other, lines)
            self.told(one == other, [tuple(range(20, 20 + one))] + lines)

    def test_the_same_first_value_twice(self):
        self.told(False, [("a",), ("a",)])
        self.told(False, [("a", 1), ("b", 2), ("a", 1)])
        self.told(False, [("a", 1), ("a", 2)])
        self.told(False, [(1, "x", "y"), (2, "x", "y"), (1, "x", "y")])

    def test_lines_that_meet_and_go_on_otherwise(self):
        for length in range(2, 5):
            for place in range(1, length):
                for later in range(place + 1, length):
                    one = [10 + level for level in range(length)]
                    other = [20 + level for level in range(place)] + one[place:]
                    self.told(True, [tuple(one), tuple(other)])
                    other[later] = 30
                    self.told(False, [tuple(one), tuple(other)])
                    self.told(False, [(0,) * length, tuple(one), (1,) + (0,) * (length - 1), tuple(other)])

    def test_the_same_value_at_unlike_levels(self):
        self.told(True, [("a", "a", "a", "a"), ("b", "a", "a", "a")])
        self.told(True, [(1, 2), (2, 1), (3, 3)])
        self.told(True, [("a", "b", 1), ("b", "a", 2)])

    def test_a_number_and_a_word_are_unlike(self):
        self.told(True, [(1, "w1", "x"), ("a", 1, "y")])

    def test_things_in_the_place_of_a_line(self):
        for thing in ANY_THINGS:
            if not is_line(thing):
                self.told(False, [thing])
                self.told(False, [("b",), thing])
                self.told(False, [thing, ("b",)])
        self.told(False, [["a", 1], ["b", 1]])

    def test_a_truth_is_no_value_of_a_line(self):
        self.told(False, [(0, 1), (True, 1)])
        self.told(False, [(5, 1), (6, True)])

    def test_things_that_are_no_list(self):
        self.told(False, tuple(LADDERS[1]))
        self.told(False, ("a", "b"))
        self.told(False, ["a", "b"])
        self.told(False, {("a",): 1})
        for thing in ANY_THINGS:
            self.told(thing in [[(1,)]], thing)


class LevelsTest(unittest.TestCase, Asserts):
    def ladders(self):
        source = source_of(1)
        grown = [random_ladder(source, lines, length) for lines in [1, 2, 5, 17, 40] for length in range(1, 5)]
        return LADDERS + grown

    def test_whole(self):
        for ladder in self.ladders():
            self.assertEqual(self.asked(whole_of, ladder), len(ladder[0]))
        self.assertEqual([whole_of(ladder) for ladder in LADDERS], [1, 2, 3, 4])

    def test_values_as_written(self):
        self.assertEqual(values_at(LADDERS[0], 0), [-3, 9, 10, "a", "b"])
        self.assertEqual(values_at(LADDERS[0], 1), [None])
        self.assertEqual(values_at(LADDERS[2], 0), [1, 2, 5, "a", "b", "x"])
        self.assertEqual(values_at(LADDERS[2], 1), [2, 7, "b", "x"])
        self.assertEqual(values_at(LADDERS[2], 2), [1, "x"])
        self.assertEqual(values_at(LADDERS[2], 3), [None])
        self.assertEqual(values_at([("a10",), ("a2",), ("a",), (10,), (9,)], 0), [9, 10, "a", "a10", "a2"])

    def test_beneath_as_written(self):
        self.assertEqual(beneath(LADDERS[2], 0, "b"), ["b"])
        self.assertEqual(beneath(LADDERS[2], 1, "x"), ["a", "b"])
        self.assertEqual(beneath(LADDERS[2], 1, "b"), ["x"])
        self.assertEqual(beneath(LADDERS[2], 2, 1), [5, "a", "b", "x"])
        self.assertEqual(beneath(LADDERS[2], 2, "x"), [1, 2])

    def test_up_as_written(self):
        self.assertEqual([up(LADDERS[2], "x", level) for level in range(4)], ["x", "b", 1, None])
        self.assertEqual([up(LADDERS[3], 4, level) for level in range(5)], [4, "k", 3, "all", None])
        self.assertEqual([up(LADDERS[0], 9, level) for level in range(2)], [9, None])

    def test_each_level_held_against_the_lines(self):
        for ladder in self.ladders():
            for level in range(whole(ladder) + 1):
                values = self.asked(values_at, ladder, level)
                self.assertEqual(values, sorted_values([at(ladder, line[0], level) for line in ladder]))
                for value in values:
                    wanted = sorted_values([line[0] for line in ladder if at(ladder, line[0], level) == value])
                    self.assertEqual(self.asked(beneath, ladder, level, value), wanted)
                for finest in finest_values(ladder):
                    self.assertEqual(self.asked(up, ladder, finest, level), at(ladder, finest, level))

    def test_the_whole(self):
        for ladder in self.ladders():
            self.assertEqual(values_at(ladder, whole(ladder)), [None])
            self.assertEqual(beneath(ladder, whole(ladder), None), sorted_values(finest_values(ladder)))
            for value in VALUES + ladder[0:1] + [ladder[0][-1], ladder[0][0]]:
                self.assertEqual(beneath(ladder, whole(ladder), value), [])

    def test_nothing_beneath_what_no_line_has_there(self):
        for ladder in self.ladders():
            for level in range(whole(ladder)):
                there = [line[level] for line in ladder]
                others = [value for line in ladder for value in line if value not in there]
                for value in others + [None, "nowhere", 10 ** 50]:
                    self.assertEqual(self.asked(beneath, ladder, level, value), [])

    def test_nothing_beneath_a_truth(self):
        for level in range(3):
            self.assertEqual(beneath([(1, 1), (0, 0)], level, True), [])
            self.assertEqual(beneath([(1, 1), (0, 0)], level, False), [])

    def test_told_lists_are_the_askers_own(self):
        for ladder in LADDERS:
            for level in range(whole(ladder) + 1):
                self.own_each_time(values_at, ladder, level)
                self.own_each_time(beneath, ladder, level, at(ladder, ladder[0][0], level))
                self.own_each_time(beneath, ladder, level, "nowhere")

    def test_a_change_of_the_ladder_is_seen(self):
        ladder = [("a", 1)]
        values_at(ladder, 0)
        ladder.append(("b", 1))
        self.assertEqual(values_at(ladder, 0), ["a", "b"])
        self.assertEqual(beneath(ladder, 1, 1), ["a", "b"])


if __name__ == "__main__":
    unittest.main()
