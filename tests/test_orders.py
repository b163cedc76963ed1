import itertools
import unittest

from cubebook.orders import in_order, key_before, value_before

MANY = 10 ** 59

# Each list below is written in the order that is asked for, the first thing first.
WHOLES = [1 - 10 * MANY, -MANY - 1, -MANY, 1 - MANY, -100, -99, -12, -11, -10, -9, -2, -1, 0, 1, 2, 9, 10, 11, 12,
          99, 100, MANY - 1, MANY, MANY + 1, 10 * MANY - 1]
WORDS = ["a", "a0", "a00", "a000000000", "a01", "a09", "a0a", "a0z", "a1", "a10", "a19", "a2", "a9", "a99", "aa",
         "aa0", "aaa", "aaaaaaaaaaaa", "ab", "az", "az9", "azz", "b", "b0", "ba", "mon", "mon1", "mona", "monb", "moo",
         "z", "z0", "z9", "za", "zz", "zzzzzzzzzzz", "zzzzzzzzzzz0", "zzzzzzzzzzz9", "zzzzzzzzzzza", "zzzzzzzzzzzz"]
VALUES = [None] + WHOLES + WORDS
SIGNS = "0123456789abcdefghijklmnopqrstuvwxyz"


def keys_behind(begin, things, longest):
    keys = [begin]
    if len(begin) < longest:
        for thing in things:
            keys.extend(keys_behind(begin + (thing,), things, longest))
    return keys


# All keys of up to so many of these things, in order where the things are.
def all_keys(things, longest):
    return keys_behind((), things, longest)


# Every step-th thing, round and round: another order of the same things where the step and their number share no part.
def strewn(things, step):
    return [things[place * step % len(things)] for place in range(len(things))]


class BeforeTest(unittest.TestCase):
    def told(self, before, things):
        for place, one in enumerate(things):
            for other_place, other in enumerate(things):
                if before(one, other) is not (place < other_place):
                    self.fail(f"{before.__name__}({one!r}, {other!r}) is not {place < other_place}")

    def test_each_value_against_each(self):
        self.told(value_before, VALUES)

    def test_figures_come_ahead_of_letters_at_each_later_place(self):
        for length in range(2, 13):
            for place in range(1, length):
                for rest in ["0", "z"]:
                    begin = "k" * place
                    self.told(value_before, [begin + sign + rest * (length - place - 1) for sign in SIGNS])

    def test_letters_at_the_first_place(self):
        for rest in ["", "0", "z", "m1", "z9876543210"]:
            self.told(value_before, [sign + rest for sign in SIGNS if sign.isalpha()])

    def test_the_first_unlike_place_decides(self):
        self.told(value_before, ["a9z", "aa", "aa9", "ab0"])
        self.told(value_before, ["b0zzzzzzzzzz", "b1", "b1a", "b2"])

    def test_begins_come_first(self):
        for word in ["abcdefghijkl", "z00000000000", "a9z9a9z9a9z9"]:
            self.told(value_before, [word[:length] for length in range(1, 13)])

    def test_whole_numbers_side_by_side(self):
        self.told(value_before, list(range(-60, 61)))
        for middle in [-MANY, -(2 ** 64), -(2 ** 31), 2 ** 31, 2 ** 53, 2 ** 64, MANY]:
            self.told(value_before, list(range(middle - 3, middle + 4)))

    def test_each_key_against_each(self):
        self.told(key_before, all_keys([None, -2, 10, "b"], 4))
        self.told(key_before, all_keys([None, "a", "a0", "b"], 4))
        self.told(key_before, all_keys([-MANY, 9, MANY, "z9"], 3))
        self.told(key_before, all_keys(VALUES[::6], 2))

    def test_keys_unlike_at_one_place(self):
        for length in range(1, 5):
            for place in range(length):
                for filler in [None, 5, "m"]:
                    begin = (filler,) * place
                    rest = (filler,) * (length - place - 1)
                    self.told(key_before, [begin + (thing,) + rest for thing in VALUES])

    def test_a_later_place_does_not_outweigh_an_earlier_one(self):
        self.told(key_before, [(None, "z", "z", "z"), (1, None), (1, 2, "z"), (1, "a"), ("a", None), ("b",)])

    def test_keys_stay_as_they_were(self):
        one, other = (None, 1, "a"), (None, 1, "b")
        key_before(one, other)
        self.assertEqual((one, other), ((None, 1, "a"), (None, 1, "b")))


class InOrderTest(unittest.TestCase):
    def told(self, keys, wanted):
        handed = list(keys)
        answer = in_order(handed)
        self.assertIs(type(answer), list)
        self.assertEqual(answer, wanted)
        for key in answer:
            self.assertIs(type(key), tuple)
        self.assertIsNot(answer, handed)
        self.assertEqual(handed, list(keys))

    def test_no_keys(self):
        self.told([], [])

    def test_one_key(self):
        for key in [(), (None,), (0,), ("a",), (None, 3, "b", "a")]:
            self.told([key], [key])

    def test_one_key_many_times(self):
        for key in [(), (None,), (0,), ("a", 1)]:
            self.told([key] * 2, [key])
            self.told([key] * 7, [key])

    def test_each_order_of_a_few(self):
        wanted = [(), (None,), (None, 1), (-1, "b"), ("a",)]
        for keys in itertools.permutations(wanted):
            self.told(keys, wanted)
            self.told(keys + keys[:3], wanted)

    def test_many_keys_in_any_order(self):
        for things in [[None, 2, "b"], [-MANY, 10, "a0"], ["a", "a9", "aa"]]:
            wanted = all_keys(things, 4)
            self.assertEqual(len(wanted), 121)
            for keys in [wanted, wanted[::-1], strewn(wanted, 7), strewn(wanted, 50), strewn(wanted, 119)]:
                self.told(keys, wanted)
                self.told(keys + wanted, wanted)
                self.told(wanted + keys + wanted[:58], wanted)

    def test_each_value_as_a_key(self):
        wanted = [(thing,) for thing in VALUES]
        self.told(wanted[::-1], wanted)
        self.told(strewn(wanted, 5) + wanted[::2], wanted)

    def test_three_hundred_keys(self):
        wanted = [(number // 20, number % 20) for number in range(300)]
        self.told(strewn(wanted, 7), wanted)

    def test_a_change_of_the_told_list_changes_no_later_answer(self):
        keys = [("b",), (1,), ("b",), (None,)]
        first = in_order(keys)
        first.append(("z",))
        first[0] = (9,)
        second = in_order(keys)
        self.assertEqual(second, [(None,), (1,), ("b",)])
        first.clear()
        self.assertEqual(second, [(None,), (1,), ("b",)])
        self.assertEqual(keys, [("b",), (1,), ("b",), (None,)])

    def test_the_told_empty_list_is_the_askers_own(self):
        in_order([]).append((1,))
        self.assertEqual(in_order([]), [])

    def test_a_change_of_the_list_handed_in_changes_no_told_one(self):
        keys = [("b",), (1,), (None,)]
        first = in_order(keys)
        keys.append((0,))
        keys[0] = ("a",)
        self.assertEqual(first, [(None,), (1,), ("b",)])
        self.assertEqual(in_order(keys), [(None,), (0,), (1,), ("a",)])

    def test_a_list_that_is_in_order_is_copied_too(self):
        keys = [(None,), (1,)]
        in_order(keys).clear()
        self.assertEqual(keys, [(None,), (1,)])


if __name__ == "__main__":
    unittest.main()
