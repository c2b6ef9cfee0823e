import fractions
import unittest

from runrows.names import brought, is_name, is_number, is_value, is_word
from tests.helper import exact

KEPT = (
    "module in out row use end number truth on yes no not and or if before then when held"
).split()
NO_WORDS = (
    "", " ", "abcdefghi", "abcdefghijklmnopqrst", "A", "Go", "gO", "a1", "1", "a_b", "_", "-", "a b", " a", "a ",
    "a\n", "\n", "\ta", "a\t", "`", "{", "a`", "z{", "@", "[", "a,b", "a-b", "\u00e9", "\u00df", "\u03b1", "\u0131",
)


class Words(unittest.TestCase):
    def check(self, asked, thing, want):
        self.assertIs(asked(thing), want, (asked.__name__, thing))

    def test_words_by_length(self):
        for word in ("a", "z", "ab", "go", "mid", "abcdefg", "abcdefgh", "stuvwxyz", "zzzzzzzz"):
            self.check(is_word, word, True)
            self.check(is_name, word, True)

    def test_every_letter_is_one(self):
        for letter in "abcdefghijklmnopqrstuvwxyz":
            self.check(is_word, letter, True)
            self.check(is_name, letter, True)

    def test_what_is_no_word(self):
        for thing in NO_WORDS:
            self.check(is_word, thing, False)
            self.check(is_name, thing, False)
            self.check(is_name, "a." + thing, False)
            self.check(is_name, thing + ".a", False)
            self.check(is_name, "a." + thing + ".b", False)

    def test_kept_words_alone_are_none(self):
        self.assertEqual(len(KEPT), 19)
        for word in KEPT:
            self.check(is_word, word, False)
            self.check(is_name, word, False)

    def test_kept_words_among_others_are_names(self):
        for word in KEPT:
            for name in ("a." + word, word + ".a", "a." + word + ".b", word + "." + word, "a.b.c." + word):
                self.check(is_name, name, True)
                self.check(is_word, name, False)

    def test_near_a_kept_word(self):
        for word in ("modul", "modules", "ins", "i", "ou", "outer", "rows", "numbers", "nott", "helder", "befor"):
            self.check(is_word, word, True)
            self.check(is_name, word, True)

    def test_one_to_five_words(self):
        for many in (1, 2, 3, 4):
            self.check(is_name, ".".join(["go"] * many), True)
            self.check(is_name, ".".join(["abcdefgh"] * many), True)
            self.check(is_name, ".".join(["a"] * (many - 1) + ["abcdefghi"]), False)
        for many in (5, 6, 20):
            self.check(is_name, ".".join(["a"] * many), False)
        for name in ("go", "a.go", "a.in.b"):
            self.check(is_name, name, True)

    def test_words_have_no_points(self):
        for name in ("a.b", "a.go", "a.b.c.d", ".", "..", "a.", ".a"):
            self.check(is_word, name, False)

    def test_points_ahead_behind_and_doubled(self):
        for name in (".", "..", "...", "a.", ".a", ".a.", "a..b", "a.b.", ".a.b", "a...b", "a.b..c", "in.", ".in"):
            self.check(is_name, name, False)


class Values(unittest.TestCase):
    def test_truths_are_values_and_no_numbers(self):
        for truth in (True, False):
            self.assertIs(is_value(truth), True)
            self.assertIs(is_number(truth), False)

    def test_numbers_within(self):
        for number in range(-128, 128):
            self.assertIs(is_value(number), True, number)
            self.assertIs(is_number(number), True, number)

    def test_numbers_beyond(self):
        for number in (-129, 128, -130, 129, 255, 256, -256, 1000, 10 ** 30, -10 ** 30, 10 ** 5000):
            self.assertIs(is_value(number), False)
            self.assertIs(is_number(number), False)

    def test_anything_else_is_none(self):
        things = (
            None, "", "1", "True", "yes", [], [1], [True], (), (1,), (True,), {}, {1: 1}, {1}, 1.0, 0.0, float("nan"),
            float("inf"), 1j, b"", b"1", fractions.Fraction(1), object(), int, bool, len, range(3), NotImplemented,
        )
        for thing in things:
            self.assertIs(is_value(thing), False, thing)
            self.assertIs(is_number(thing), False, thing)


class Brought(unittest.TestCase):
    def test_numbers_within_stay(self):
        for number in range(-128, 128):
            self.assertEqual(exact(brought(number)), exact(number))

    def test_one_beyond(self):
        self.assertEqual(brought(128), -128)
        self.assertEqual(brought(-129), 127)

    def test_somewhat_beyond(self):
        told = {255: -1, 256: 0, 257: 1, 383: 127, 384: -128, -255: 1, -256: 0, -257: -1, -384: -128, -385: 127}
        for number, want in told.items():
            self.assertEqual(brought(number), want, number)

    def test_far_beyond(self):
        for many in (3, 1000, 10 ** 40):
            for number in (-128, -127, -1, 0, 1, 126, 127):
                self.assertEqual(brought(number + 256 * many), number)
                self.assertEqual(brought(number - 256 * many), number)
