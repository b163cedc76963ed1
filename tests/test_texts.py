import itertools
import unittest

from aids import ANY_THINGS, Asserts
from cubebook.errors import NoText
from cubebook.texts import (read_grain, read_key, read_line, read_pick, read_row, show_cell, show_grain, show_key,
                            show_pick, show_row)

NUMBERS = [0, 1, -1, 9, 10, -10, 100, 2 ** 64, 10 ** 59, 10 ** 60 - 1, 1 - 10 ** 60, int("1234567890" * 6)]
WORDS = ["a", "z", "mon", "shop1", "a0", "abcdefghijkl", "z99999999999"]
WRONG_NUMBERS = ["00", "01", "-01", "-0", "-00", "+1", "+0", "--1", "-", "+", "1-", "1 ", " 1", "1\n", "\n1", "1\t", "0x1",
                 "1_0", "1.0", "1e3", "", "1" * 61, "-" + "9" * 61, "0" * 60, "1" * 3000, "- 1", "1+1"]
WRONG_WORDS = ["A", "aB", "Mon", "1a", "9z", "a_", "a-b", "a b", " a", "a ", "a\n", "\na", "a\tb", "abcdefghijklm", "",
               "**", "*a", "a*", "a.", "'a'", "None", "True", "a;", "a:", "a=", "a@"]
NO_TEXTS = [thing for thing in ANY_THINGS if not isinstance(thing, str)]
READS = [read_key, read_line, read_grain, read_pick, read_row]


class TextAsserts(Asserts):
    def reads_as(self, read, text, wanted):
        told = read(text)
        self.assertEqual(told, wanted)
        self.assertEqual(repr(told), repr(wanted))

    def refused_all(self, read, texts):
        for text in texts:
            self.refused(NoText, read, text)


class KeysTest(unittest.TestCase, TextAsserts):
    def test_as_written(self):
        self.assertEqual(show_key(("mon", "shop1")), "mon/shop1")
        self.assertEqual(show_key((None, -3)), "*/-3")
        self.reads_as(read_key, "mon/shop1", ("mon", "shop1"))
        self.reads_as(read_key, "*/-3/*", (None, -3, None))
        self.reads_as(read_line, "mon/w1/2026", ("mon", "w1", 2026))

    def test_each_value_alone(self):
        for value in NUMBERS + WORDS:
            self.assertEqual(show_key((value,)), str(value))
            self.reads_as(read_key, str(value), (value,))
            self.reads_as(read_line, str(value), (value,))
        self.assertEqual(show_key((None,)), "*")
        self.reads_as(read_key, "*", (None,))

    def test_numbers_of_one_to_sixty_figures(self):
        for figures in range(1, 61):
            for text in ["7" * figures, "-" + "7" * figures, "1" + "0" * (figures - 1)]:
                self.reads_as(read_line, text, (int(text),))
                self.assertEqual(show_key((int(text),)), text)
        for figures in range(61, 70):
            for text in ["7" * figures, "-" + "7" * figures, "1" + "0" * (figures - 1)]:
                for read in READS:
                    self.refused(NoText, read, text)

    def test_one_to_four_parts(self):
        for length in range(1, 5):
            for key in itertools.product([None, 0, -12, "a", "b9"], repeat=length):
                text = "/".join("*" if thing is None else str(thing) for thing in key)
                self.assertEqual(show_key(key), text)
                self.reads_as(read_key, text, key)
                if None in key:
                    self.refused(NoText, read_line, text)
                else:
                    self.reads_as(read_line, text, key)

    def test_too_many_and_too_few_parts(self):
        for read in [read_key, read_line]:
            self.refused_all(read, ["", "a/a/a/a/a", "1/2/3/4/5/6", "/", "a/", "/a", "a//b", "a/b/", "/a/b", "a/b/c/d/"])

    def test_wrong_parts(self):
        for wrong in WRONG_NUMBERS + WRONG_WORDS:
            for text in [wrong, wrong + "/a", "a/" + wrong, "1/" + wrong + "/b"]:
                self.refused_all(read_key, [text])
                self.refused_all(read_line, [text])

    def test_other_signs_between(self):
        for read in [read_key, read_line]:
            self.refused_all(read, ["a b", "a,b", "a / b", "a/ b", "a /b", "a\\b", "a|b", "a;b", "a/b\n", "\ta/b", "a\n/b"])

    def test_what_is_no_text(self):
        for read in READS:
            self.refused_all(read, NO_TEXTS)


class GrainsTest(unittest.TestCase, TextAsserts):
    def test_one_to_four_levels(self):
        for length in range(1, 5):
            for grain in itertools.product([0, 1, 4, 10], repeat=length):
                text = "/".join(str(level) for level in grain)
                self.assertEqual(show_grain(grain), text)
                self.reads_as(read_grain, text, grain)
        self.reads_as(read_grain, "0/2", (0, 2))
        self.reads_as(read_grain, "9" * 60, (10 ** 60 - 1,))

    def test_what_is_no_grain(self):
        wrong = ["", "/", "0/", "/0", "0//1", "0/0/0/0/0", "-1", "0/-1", "-0", "a", "0/a", "*", "0/*", "0 1", "0/1 ", " 0",
                 "0/1\n", "0\t/1", "00", "0/01", "+1", "0,1", "1" * 61]
        self.refused_all(read_grain, wrong + WRONG_NUMBERS + WRONG_WORDS)


class PicksTest(unittest.TestCase, TextAsserts):
    def test_as_written(self):
        self.assertEqual(show_pick((0, 1, ["w1", "w2"])), "0@1=w1,w2")
        self.assertEqual(show_pick((3, 0, (None,))), "3@0=*")
        self.reads_as(read_pick, "0@1=w1,w2", (0, 1, ["w1", "w2"]))
        self.reads_as(read_pick, "3@4=*", (3, 4, [None]))
        self.reads_as(read_pick, "12@34=-5,0,a,*,a", (12, 34, [-5, 0, "a", None, "a"]))

    def test_one_value_and_several(self):
        for many in range(1, 4):
            for values in itertools.product([None, 0, -7, "a", "b2"], repeat=many):
                text = "2@3=" + ",".join("*" if value is None else str(value) for value in values)
                self.assertEqual(show_pick((2, 3, list(values))), text)
                self.assertEqual(show_pick((2, 3, values)), text)
                self.reads_as(read_pick, text, (2, 3, list(values)))
        for value in NUMBERS + WORDS:
            self.reads_as(read_pick, show_pick((0, 0, [value])), (0, 0, [value]))

    def test_the_told_list_is_the_askers_own(self):
        self.own_each_time(read_pick, "0@1=w1,w2")

    def test_what_is_no_pick(self):
        self.refused_all(read_pick, [
            "", "0", "0@1", "0@1=", "@1=a", "0@=a", "@=a", "0=a", "0@1a", "=a", "0@1==a", "0@@1=a", "0@1=a=b", "0@1@2=a",
            "0@1=a,", "0@1=,a", "0@1=a,,b", "0@1=,", "0@1=a b", "0@1=a, b", "0 @1=a", "0@ 1=a", "0@1 =a", "0@1= a",
            "0@1=a ", " 0@1=a", "-1@0=a", "0@-1=a", "a@0=a", "0@a=a", "*@0=a", "0@*=a", "00@1=a", "0@01=a", "+0@1=a",
            "-0@1=a", "0@-0=a", "0@1=a\n", "0@1\n=a", "0\t@1=a", "0@1=A", "0@1=01", "0@1=-0", "0@1=a/b", "0@1=[a]",
            "1=a@0", "0@1=a;b", "1" * 61 + "@0=a", "0@" + "1" * 61 + "=a"])
        for wrong in WRONG_NUMBERS + WRONG_WORDS:
            self.refused_all(read_pick, ["0@1=" + wrong, "0@1=a," + wrong, "0@1=" + wrong + ",a", wrong + "@0=a",
                                         "0@" + wrong + "=a"])


class RowsTest(unittest.TestCase, TextAsserts):
    def test_one_to_four_values(self):
        for length in range(1, 5):
            for key in itertools.product([0, -12, "a", "b9"], repeat=length):
                for amount in [0, 5, -5, 10 ** 60 - 1, 1 - 10 ** 60]:
                    text = "/".join(str(value) for value in key) + " " + str(amount)
                    self.assertEqual(show_row((key, amount)), text)
                    self.reads_as(read_row, text, (key, amount))

    def test_what_is_no_row(self):
        self.refused_all(read_row, ["", " ", "a", "a ", " 5", "5", "a  5", " a 5", "a 5 ", "a 5 5", "a b", "a *", "* 5",
                                    "a/* 5", "a/b/c/d/e 5", "a/ 5", "/a 5", "a\t5", "a\n5", "a 5\n", "\na 5", "A 5",
                                    "a 05", "a -0", "a +5", "a 5.0", "a/b", "a, 5", "a/b/5", "a -", "a " + "1" * 61])
        for wrong in WRONG_NUMBERS + WRONG_WORDS:
            self.refused_all(read_row, ["a " + wrong, wrong + " 5", "a/" + wrong + " 5"])


class CellsTest(unittest.TestCase):
    def test_cells(self):
        self.assertEqual(show_cell((3, 25, -4, 20)), "3 25 -4 20")
        self.assertEqual(show_cell((1, 0, 0, 0)), "1 0 0 0")
        many = 10 ** 60 - 1
        self.assertEqual(show_cell((200, 200 * many, -many, many)), f"200 {200 * many} -{many} {many}")


if __name__ == "__main__":
    unittest.main()
