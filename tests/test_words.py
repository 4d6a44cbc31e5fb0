"""Names, integers, counts and variables [2, 5]."""

import enum
import unittest

from cycleready import words
from cycleready.errors import InvalidName
from cycleready.words import (
    VARIABLES,
    bare_word,
    check_name,
    is_count,
    is_decimal,
    is_integer,
    is_name,
    is_variable,
)
from values import NO_NAMES, NO_NUMBERS_NO_STRINGS, Word, is_same

LETTERS = "abcdefghijklmnopqrstuvwxyz"


class Level(enum.IntEnum):
    LOW = 1


class WordsCase(unittest.TestCase):
    def check(self, function, accepted, rejected):
        for value in accepted:
            self.assertIs(function(value), True, msg=f"{function.__name__} of {value!r}")
        for at, value in enumerate(rejected):
            self.assertIs(function(value), False, msg=f"{function.__name__} of rejected value {at}")


class Names(WordsCase):
    def test_names(self):
        accepted = list(LETTERS) + ["ab", "abcdefg", "abcdefgh", "zzzzzzzz", "set", "fail", "module"]
        self.check(is_name, accepted, [])

    def test_wrong_lengths(self):
        self.check(is_name, ["z", "z" * 8], ["", "z" * 9, "z" * 100, LETTERS])

    def test_wrong_characters(self):
        rejected = ["A", "aB", "Ab", "Z", "a1", "1", "0", "12345678", " ", "a ", " a", "a b", "a\n", "\n", "\t"]
        rejected += ["_", "a_b", "a-b", "-", "`", "{", "@", "[", "~", "a.b", "aaaaaaaA", "Aaaaaaaa", "\u00e9", "\u0430"]
        self.check(is_name, [], rejected)

    def test_each_character_of_ascii(self):
        for number in range(128):
            self.assertIs(is_name(chr(number)), chr(number) in LETTERS)

    def test_other_values(self):
        self.check(is_name, [], NO_NUMBERS_NO_STRINGS + [0, 1, ("a",), ("a", "b")])

    def test_by_name(self):
        self.assertIs(is_name(value="a"), True)

    def test_check_name(self):
        for name in ("a", "z", "ab", "abcdefgh"):
            self.assertIsNone(check_name(name))
        for at, value in enumerate(NO_NAMES):
            with self.assertRaises(InvalidName) as caught:
                check_name(value)
            self.assertTrue(is_same(caught.exception.value, value), msg=f"value {at}")

    def test_bare_word(self):
        for word in ("a", "", "need", Word.NEED):
            self.assertEqual(bare_word(word), word)
            self.assertIs(type(bare_word(word)), str)


class Integers(WordsCase):
    def test_integers(self):
        self.check(is_integer, [0, 1, -1, 30, 10 ** 29, -(10 ** 29), Level.LOW], [True, False])

    def test_other_values(self):
        self.check(is_integer, [], NO_NUMBERS_NO_STRINGS + ["", "0", "1", "-1", (), (1,)])

    def test_by_name(self):
        self.assertIs(is_integer(value=0), True)


class Counts(WordsCase):
    def test_counts(self):
        self.check(is_count, [0, 1, 2, 30, 10 ** 29, Level.LOW], [-1, -2, -(10 ** 29), True, False])

    def test_other_values(self):
        self.check(is_count, [], NO_NUMBERS_NO_STRINGS + ["", "0", "1", (), (1,)])

    def test_by_name(self):
        self.assertIs(is_count(value=0), True)


class Variables(WordsCase):
    def test_the_tuple(self):
        self.assertEqual(VARIABLES, ("a", "b", "c", "d"))
        self.assertIsInstance(VARIABLES, tuple)
        self.assertIs(words.VARIABLES, VARIABLES)

    def test_is_variable(self):
        self.check(is_variable, ["a", "b", "c", "d"], ["", "e", "A", "ab", "abcd", "a ", 0, 1, ("a",)])

    def test_other_values(self):
        self.check(is_variable, [], NO_NUMBERS_NO_STRINGS)


class Decimals(WordsCase):
    def test_decimals(self):
        accepted = ["0", "1", "9", "10", "-1", "-10", "100", "-909", "9" * 30, "-" + "9" * 30]
        self.check(is_decimal, accepted, [])

    def test_other_strings(self):
        rejected = ["", "-", "--1", "+1", "+0", "-0", "00", "01", "-01", "1-", "1_0", " 1", "1 ", "1\n", "a", "0x1"]
        rejected += ["1.0", "1e3", "-+1", "\u0661", "\u00b2", "- 1"]
        self.check(is_decimal, [], rejected)


if __name__ == "__main__":
    unittest.main()
