import copy
import unittest

from aids import ANY_THINGS, LADDERS, Asserts, random_ladder, source_of, whole
from cubebook.errors import NoLadder, NoValue, TooMuch
from cubebook.ladders import is_ladder, is_line
from cubebook.shifts import grown, regrouped
from cubebook.words import is_value


# The lines with another parent, by the words of point 8.
def moved(ladder, level, value, parent):
    behind = [line[level + 1:] for line in ladder if line[level + 1] == parent][-1]
    return [line if line[level] != value else line[:level + 1] + behind for line in ladder]


class RegroupedTest(unittest.TestCase, Asserts):
    def ladders(self):
        source = source_of(2)
        return LADDERS + [random_ladder(source, lines, length) for lines in [1, 3, 9] for length in [2, 3, 4]]

    def test_as_written(self):
        ladder = [("tue", "w1"), (3, "w1"), ("mon", 2), (1, 2)]
        self.assertEqual(self.asked(regrouped, ladder, 0, "tue", 2), [("tue", 2), (3, "w1"), ("mon", 2), (1, 2)])
        ladder = [("a", "x", 1, 8), ("b", "x", 1, 8), ("c", "y", 2, 9), ("d", "z", 1, 8)]
        self.assertEqual(regrouped(ladder, 1, "x", 2), [("a", "x", 2, 9), ("b", "x", 2, 9), ladder[2], ladder[3]])
        self.assertEqual(regrouped(ladder, 0, "b", "y"), [ladder[0], ("b", "y", 2, 9), ladder[2], ladder[3]])
        self.assertEqual(regrouped(ladder, 2, 1, 9),
                         [("a", "x", 1, 9), ("b", "x", 1, 9), ("c", "y", 2, 9), ("d", "z", 1, 9)])

    def test_each_level_value_and_parent(self):
        for ladder in self.ladders():
            for level in range(whole(ladder) - 1):
                for value in {line[level] for line in ladder}:
                    for parent in {line[level + 1] for line in ladder}:
                        told = self.asked(regrouped, ladder, level, value, parent)
                        self.assertEqual(told, moved(ladder, level, value, parent))
                        self.is_truth(True, is_ladder(told))

    def test_the_parent_that_it_has(self):
        for ladder in self.ladders():
            for level in range(whole(ladder) - 1):
                for line in ladder:
                    self.assertEqual(regrouped(ladder, level, line[level], line[level + 1]), ladder)

    def test_what_is_no_level(self):
        for ladder in self.ladders():
            length = whole(ladder)
            for level in [length - 1, length, length + 1, -1, -2, True, False, None, "a", "0", [0], (0,), 10 ** 50]:
                for value, parent in [ladder[0][:2] if length > 1 else ("b", "a"), (ladder[0][-1], None), (True, [])]:
                    self.refused(NoValue, regrouped, ladder, level, value, parent)

    def test_things_that_are_no_value_and_no_parent(self):
        for ladder in self.ladders():
            for level in range(whole(ladder) - 1):
                line = ladder[0]
                there = [other[level] for other in ladder]
                above = [other[level + 1] for other in ladder]
                for thing in ANY_THINGS + ["nowhere", line]:
                    if not is_value(thing) or thing not in there:
                        self.refused(NoValue, regrouped, ladder, level, thing, line[level + 1])
                    if not is_value(thing) or thing not in above:
                        self.refused(NoValue, regrouped, ladder, level, line[level], thing)
                        self.refused(NoValue, regrouped, ladder, level, thing, thing)

    def test_truths_in_the_place_of_one_and_nought(self):
        ladder = [(1, 1, 1), (0, 0, 0)]
        for level, value, parent in [(False, 1, 1), (True, 1, 1), (0, True, 0), (0, False, 0), (0, 1, True),
                                     (1, 1, False), (1, True, 1)]:
            self.refused(NoValue, regrouped, ladder, level, value, parent)

    def test_values_of_other_levels(self):
        ladder = [("a", "x", 1), ("b", "y", 2)]
        for level, value, parent in [(0, "x", "y"), (1, "a", 1), (0, "a", "b"), (0, "a", 1), (1, "x", "y")]:
            self.refused(NoValue, regrouped, ladder, level, value, parent)

    def test_the_told_ladder_is_the_askers_own(self):
        self.own_each_time(regrouped, LADDERS[1], 0, "mon", "w1")
        ladder = copy.deepcopy(LADDERS[1])
        told = regrouped(ladder, 0, "mon", 2)
        ladder.clear()
        self.assertEqual(told, LADDERS[1])


class GrownTest(unittest.TestCase, Asserts):
    def test_a_line_that_goes_with_the_others(self):
        for ladder in LADDERS:
            for first in ["new", 77]:
                for tail in [line[1:] for line in ladder]:
                    self.assertEqual(self.asked(grown, ladder, (first,) + tail), ladder + [(first,) + tail])
                fresh = tuple([first] * whole(ladder))
                self.assertEqual(grown(ladder, fresh), ladder + [fresh])

    def test_what_is_no_line(self):
        for ladder in LADDERS:
            for thing in ANY_THINGS:
                if not is_line(thing):
                    self.refused(NoLadder, grown, ladder, thing)
            self.refused(NoLadder, grown, ladder, ["new"] + list(ladder[0][1:]))
            for place in range(whole(ladder)):
                for thing in [None, True, False, "", "A", (1,), [1]]:
                    line = ("new",) + ladder[0][1:]
                    self.refused(NoLadder, grown, ladder, line[:place] + (thing,) + line[place + 1:])

    def test_a_line_of_another_length(self):
        for ladder in LADDERS:
            for length in range(6):
                if length != whole(ladder):
                    self.refused(NoLadder, grown, ladder, ("new", "new2", "new3", "new4", "new5")[:length])

    def test_a_first_value_that_there_is(self):
        for ladder in LADDERS:
            for line in ladder:
                self.refused(NoLadder, grown, ladder, line)
                self.refused(NoLadder, grown, ladder, line[:1] + ("new",) * (whole(ladder) - 1))

    def test_a_line_that_goes_on_otherwise(self):
        for ladder in LADDERS[2:]:
            for line in ladder:
                for place in range(1, whole(ladder)):
                    for later in range(place + 1, whole(ladder)):
                        other = ("new",) * place + line[place:later] + ("new",) * (whole(ladder) - later)
                        self.refused(NoLadder, grown, ladder, other)

    def test_how_many_lines(self):
        lines = [(number, number % 7, "all") for number in range(60)]
        self.assertEqual(self.asked(grown, lines[:38], lines[38]), lines[:39])
        self.assertEqual(self.asked(grown, lines[:39], lines[39]), lines[:40])
        self.refused(TooMuch, grown, lines[:40], lines[40])
        self.refused(TooMuch, grown, lines[:40], ("a", "b", "c"))

    def test_no_ladder_goes_ahead_of_too_much(self):
        lines = [(number, number % 7, "all") for number in range(40)]
        for line in [(0, 0, "all"), (40, 0, "none"), (40, 0), (40, 0, "all", "all"), [40, 0, "all"], None, True, (),
                     (True, 0, "all"), (40, None, "all"), "a", 40, []]:
            self.refused(NoLadder, grown, lines, line)

    def test_the_told_ladder_is_the_askers_own(self):
        self.own_each_time(grown, LADDERS[1], ("new", "w1"))
        ladder = copy.deepcopy(LADDERS[0])
        told = grown(ladder, ("new",))
        ladder.clear()
        self.assertEqual(told, LADDERS[0] + [("new",)])


if __name__ == "__main__":
    unittest.main()
