"""Point 11: rows written and read."""

import itertools
import string
import unittest

from keepaway.errors import BadText
from keepaway.notes import read, shown

SIGNS = [chr(code) for code in range(ord(" "), ord("~") + 1) if chr(code) != "%"] + ["\t", "\n"]
OTHER_SIGNS = [sign for sign in SIGNS if sign not in string.ascii_lowercase and sign != "."]


class Written(unittest.TestCase):
    def check(self, row, text):
        with self.subTest(text=text):
            told = shown(row)
            self.assertEqual(told, text)
            self.assertIs(type(told), str)
            found = read(text)
            self.assertEqual(found, row)
            self.assertIs(type(found), list)

    def test_row_without_places(self):
        self.check([], "")

    def test_each_letter(self):
        for kind, letter in enumerate(string.ascii_lowercase):
            self.check([kind], letter)

    def test_all_letters_and_the_point(self):
        self.check(list(range(26)) + [None], "abcdefghijklmnopqrstuvwxyz.")
        self.check([None] + list(range(25, -1, -1)), ".zyxwvutsrqponmlkjihgfedcba")

    def test_empty_places(self):
        self.check([None], ".")
        self.check([None] * 3, "...")
        self.check([None, 0, None, 25, None], ".a.z.")

    def test_alike_ones_side_by_side(self):
        self.check([0, 0, 1, 1, 0], "aabba")

    def test_400_places(self):
        row = [(None if place % 7 == 3 else place % 26) for place in range(400)]
        text = "".join("." if kind is None else string.ascii_lowercase[kind] for kind in row)
        self.check(row, text)
        self.check([None] * 400, "." * 400)

    def test_all_short_texts_are_read_to_what_they_are_written_from(self):
        for length in range(4):
            for signs in itertools.product("abyz.", repeat=length):
                text = "".join(signs)
                self.assertEqual(shown(read(text)), text)

    def test_kinds_read_are_whole_numbers(self):
        for kind in read(string.ascii_lowercase):
            self.assertIs(type(kind), int)


class Refused(unittest.TestCase):
    def test_the_other_signs_are_all_here(self):
        self.assertEqual(len(SIGNS), 96)
        self.assertEqual(len(OTHER_SIGNS), 69)
        for sign in "AZ09 \t\n-,_`{~!":
            self.assertIn(sign, OTHER_SIGNS)

    def test_each_other_sign(self):
        for sign in OTHER_SIGNS:
            for text in (sign, sign + "ab.", "ab." + sign, "a" + sign + ".", sign + sign, "." * 399 + sign):
                with self.subTest(text=text):
                    self.assertRaises(BadText, read, text)

    def test_each_capital_among_its_letters(self):
        for letter in string.ascii_lowercase:
            with self.subTest(letter=letter):
                self.assertRaises(BadText, read, letter + letter.upper() + letter)

    def test_blanks_round_a_text_are_not_passed_over(self):
        for text in (" abc", "abc ", "abc\n", "\tabc", "\n", "ab c"):
            with self.subTest(text=text):
                self.assertRaises(BadText, read, text)


if __name__ == "__main__":
    unittest.main()
