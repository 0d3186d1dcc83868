"""Names and written numbers (points 2 and 7)."""

import string
import unittest

from forkbeats.errors import BadName
from forkbeats.words import check_name, is_name, is_numeral
from tests.helpers import caught

NO_NAMES = [
    "", "abcdefghijklm", "a" * 5000, "A", "aB", "Ab", "a1", "1", "a b", " a", "a ", " ", "a-b", "a_b",
    "a\n", "\n", "a\t", "a=b", "`", "{", "\u00e4", "\u00df", "\u0430", "\uff41", "\u00aa", "a\u0301", "\x00",
]


class NameTest(unittest.TestCase):
    def test_each_letter_is_a_name(self):
        for letter in string.ascii_lowercase:
            self.assertIs(is_name(letter), True)

    def test_one_to_twelve_letters_are_a_name(self):
        for size in range(1, 13):
            self.assertIs(is_name("abcdefghijkl"[:size]), True)
        self.assertIs(is_name("mnopqrstuvwx"), True)
        self.assertIs(is_name("zzzzzzzzzzzz"), True)

    def test_every_other_string_is_no_name(self):
        for word in NO_NAMES:
            with self.subTest(word):
                self.assertIs(is_name(word), False)

    def test_no_other_character_of_one_byte_is_a_name(self):
        words = [chr(code) for code in range(256) if is_name(chr(code))]
        self.assertEqual("".join(words), string.ascii_lowercase)

    def test_a_string_that_is_no_name_is_told(self):
        for word in NO_NAMES:
            self.assertEqual(caught(check_name, word), (BadName, {"name": word}))

    def test_a_name_is_not_told(self):
        self.assertIsNone(check_name("abcdefghijkl"))


class NumeralTest(unittest.TestCase):
    def test_numbers_without_a_leading_zero(self):
        for word in ["0", "1", "9", "10", "100", "1234567890"]:
            self.assertIs(is_numeral(word, 10), True)

    def test_other_words(self):
        for word in [
            "", "00", "01", "007", "-1", "-0", "+1", "1 ", " 1", "1\n", "1_0", "1.0", "a", "1a", "\u0661", "\u00b2",
        ]:
            with self.subTest(word):
                self.assertIs(is_numeral(word, 10), False)

    def test_the_greatest_number_of_digits(self):
        self.assertIs(is_numeral("12345678901", 10), False)
        self.assertIs(is_numeral("12345678901", 11), True)
        self.assertIs(is_numeral("9" * 5000, 40), False)


if __name__ == "__main__":
    unittest.main()
