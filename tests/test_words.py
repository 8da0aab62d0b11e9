"""Points 2 and 11: whole numbers, names, and numbers written plainly."""

import string
import unittest

from things import FAR, no_numbers, no_texts
from weirwatch.words import is_name, is_whole, number_in

SIGNS = [chr(code) for code in range(ord(" "), ord("~") + 1)] + ["\n"]
NO_LETTERS = [sign for sign in SIGNS if sign not in string.ascii_lowercase]
NO_FIGURES = [sign for sign in SIGNS if sign not in string.digits]


def with_sign_at(text, place, sign):
    return text[:place] + sign + text[place + 1:]


class Whole(unittest.TestCase):
    def test_at_and_beside_both_bounds(self):
        for low, high in ((0, 12), (1, 6), (-3, 3), (5, 5), (0, 1), (-FAR, FAR)):
            for number in (low - 1, low, low + 1, high - 1, high, high + 1):
                with self.subTest(low=low, high=high, number=number):
                    self.assertIs(is_whole(number, low, high), number in range(low, high + 1))

    def test_far_numbers(self):
        for number in (FAR, -FAR, 10 ** 100 - 1, 1 - 10 ** 100):
            self.assertIs(is_whole(number, 0, 12), False)
        self.assertIs(is_whole(FAR, 0, FAR), True)
        self.assertIs(is_whole(-FAR, -FAR, 0), True)

    def test_none_lies_between_crossed_bounds(self):
        for number in range(-2, 8):
            self.assertIs(is_whole(number, 4, 3), False)

    def test_truths_are_no_whole_numbers(self):
        for low, high in ((0, 1), (0, 0), (1, 1), (-FAR, FAR)):
            self.assertIs(is_whole(True, low, high), False)
            self.assertIs(is_whole(False, low, high), False)

    def test_other_things(self):
        for thing in no_numbers():
            with self.subTest(thing=thing):
                self.assertIs(is_whole(thing, -FAR, FAR), False)


class Names(unittest.TestCase):
    def test_lengths(self):
        for many in range(0, 12):
            with self.subTest(many=many):
                self.assertIs(is_name("a" * many), 1 <= many <= 8)
        self.assertIs(is_name("a" * 100), False)

    def test_every_letter(self):
        for letter in string.ascii_lowercase:
            self.assertIs(is_name(letter), True)
            self.assertIs(is_name("mil" + letter), True)

    def test_other_signs_at_each_place(self):
        for name in ("a", "upper", "abcdefgh"):
            self.assertIs(is_name(name), True)
            for place in range(len(name)):
                for sign in NO_LETTERS:
                    with self.subTest(name=name, place=place, sign=sign):
                        self.assertIs(is_name(with_sign_at(name, place, sign)), False)

    def test_signs_ahead_and_behind(self):
        for name in (" a", "a ", "\na", "a\n", "a b", "A", "Mill", "mill2", "a-b"):
            with self.subTest(name=name):
                self.assertIs(is_name(name), False)

    def test_small_letters_beyond_z(self):
        for code in (0xDF, 0xE4, 0xE9, 0x3B1):
            self.assertIs(is_name(chr(code)), False)

    def test_other_things(self):
        for thing in no_texts():
            with self.subTest(thing=thing):
                self.assertIs(is_name(thing), False)


class Numbers(unittest.TestCase):
    def check_read(self, text, low, high, number):
        with self.subTest(text=text, low=low, high=high):
            told = number_in(text, low, high)
            self.assertEqual(told, number)
            self.assertIs(isinstance(told, bool), False)

    def test_nought(self):
        self.check_read("0", 0, 0, 0)
        self.check_read("0", 0, 12, 0)
        self.check_read("0", -5, 5, 0)
        self.check_read("0", 1, 12, None)

    def test_nought_ahead(self):
        for text in ("00", "01", "007", "000000", "000001", "012345"):
            self.check_read(text, 0, 999999, None)

    def test_noughts_within(self):
        for number in (10, 100, 101, 100000, 500):
            self.check_read(str(number), 0, 999999, number)

    def test_one_to_six_figures(self):
        for number in (1, 9, 12, 99, 123, 4567, 89012, 345678, 999999):
            self.check_read(str(number), 0, FAR, number)

    def test_seven_figures_and_more(self):
        for text in ("1000000", "1234567", "9" * 7, "1" * 99, "1" * 100):
            self.check_read(text, 0, 10 ** 100, None)

    def test_no_figures(self):
        for text in ("", " ", "\n", "one", "-", "+", "x" * 100):
            self.check_read(text, -FAR, FAR, None)

    def test_other_signs_at_each_place(self):
        for text in ("1", "23", "456789"):
            for place in range(len(text)):
                for sign in NO_FIGURES:
                    self.check_read(with_sign_at(text, place, sign), -FAR, FAR, None)

    def test_other_signs_ahead_and_behind(self):
        for sign in NO_FIGURES:
            self.check_read(sign + "7", -FAR, FAR, None)
            self.check_read("7" + sign, -FAR, FAR, None)

    def test_figures_of_other_scripts(self):
        for code in (0x662, 0x967, 0xB2, 0xFF11):
            self.check_read(chr(code), 0, 9, None)

    def test_at_and_beside_both_bounds(self):
        for low, high in ((1, 6), (0, 12), (9, 10), (5, 5), (99, 1000), (100000, 999998)):
            for number in (low - 1, low, low + 1, high - 1, high, high + 1):
                if number >= 0:
                    self.check_read(str(number), low, high, number if low <= number <= high else None)

    def test_none_lies_between_crossed_bounds(self):
        for number in range(8):
            self.check_read(str(number), 4, 3, None)

    def test_all_numbers_of_a_few_figures(self):
        for number in range(1200):
            self.assertEqual(number_in(str(number), 0, 1000), number if number <= 1000 else None)


if __name__ == "__main__":
    unittest.main()
