import copy
import unittest

from cubebook.words import is_value, is_whole, is_word

SMALL_LETTERS = "abcdefghijklmnopqrstuvwxyz"
FIGURES = "0123456789"
ASCII = [chr(code) for code in range(128)]


def nested(thing, depth, wrap):
    for step in range(depth):
        thing = wrap([thing])
    return thing


def sixty_figures():
    return [10 ** 59, 10 ** 60 - 1, int("123456789012" * 5), -(10 ** 59), 1 - 10 ** 60]


WHOLES = [0, 1, -1, 2, 9, 10, -10, 12, 255, 256, 257, -257, 2 ** 31, 2 ** 63, -(2 ** 63), 2 ** 64] + sixty_figures()
WORDS = ["a", "z", "a0", "z9", "mon", "shop1", "abcdefghijkl", "a12345678901", "true", "none", "zzzzzzzzzzzz"]
NO_WORDS = ["", "0", "7", "12", "-1", "0a", "9z", "A", "Z", "aB", "True", "False", "None", " ", "\n", "\t",
            " a", "a ", "a b", "a\n", "\na", "a\t", "\ta", "a\r", "a\x00", "a_", "_a", "a-b", "a/b", "*", "a,b", "a.",
            "abcdefghijklm", "abcdefghijkl ", "abcdefghijkl\n", "a" * 300]
OTHERS = [None, True, False, [], (), [1], (1,), ["a"], ("a",), [None], (None,), [True], (False,), [""], [[]], ((),),
          [1, "a"], ("a", 1), [[1], ["a"]], ((1,), ("a",)), ["a", "b"], ("m", "o", "n"),
          nested(1, 8, list), nested(1, 8, tuple), nested("a", 8, list), nested("a", 8, tuple), [[(True, None)], ()]]


class TruthsTest(unittest.TestCase):
    def told(self, ask, things, truth):
        for thing in things:
            with self.subTest(ask=ask.__name__, thing=repr(thing)):
                ahead = copy.deepcopy(thing)
                self.assertIs(ask(thing), truth)
                self.assertEqual(thing, ahead)

    def test_whole_numbers_are_whole(self):
        self.told(is_whole, WHOLES, True)
        self.told(is_whole, range(-300, 301), True)

    def test_truths_are_not_whole(self):
        self.told(is_whole, [True, False], False)

    def test_other_things_are_not_whole(self):
        self.told(is_whole, WORDS + NO_WORDS + OTHERS, False)

    def test_words_are_words(self):
        self.told(is_word, WORDS, True)

    def test_other_texts_are_no_words(self):
        self.told(is_word, NO_WORDS, False)

    def test_what_is_no_text_is_no_word(self):
        self.told(is_word, WHOLES + OTHERS, False)

    def test_words_and_whole_numbers_are_values(self):
        self.told(is_value, WHOLES + WORDS, True)

    def test_nothing_else_is_a_value(self):
        self.told(is_value, NO_WORDS + OTHERS, False)


class WordPlacesTest(unittest.TestCase):
    def test_each_length(self):
        for length in range(40):
            with self.subTest(length=length):
                self.assertIs(is_word("a" * length), 1 <= length <= 12)
                self.assertIs(is_value("z" * length), 1 <= length <= 12)

    def test_each_sign_as_the_first(self):
        for sign in ASCII:
            for rest in ["", "b", "bc4", "b2345678901"]:
                with self.subTest(word=sign + rest):
                    self.assertIs(is_word(sign + rest), sign in SMALL_LETTERS)
                    self.assertIs(is_value(sign + rest), sign in SMALL_LETTERS)

    def test_each_sign_at_each_later_place(self):
        for length in range(2, 13):
            for place in range(1, length):
                for sign in ASCII:
                    word = "k" * place + sign + "7" * (length - place - 1)
                    with self.subTest(word=word):
                        self.assertIs(is_word(word), sign in SMALL_LETTERS or sign in FIGURES)

    def test_a_sign_too_many_at_the_end(self):
        for sign in ASCII:
            with self.subTest(sign=sign):
                self.assertIs(is_word("abcdefghijkl" + sign), False)


if __name__ == "__main__":
    unittest.main()
