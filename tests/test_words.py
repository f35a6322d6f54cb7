"""Promises [9] and [10]: words, names, numbers and marks."""

import unittest

from helper import RefusalCase
from twotabs.words import is_name, is_words, mark_text, number_text, read_mark, read_number

LETTERS = "abcdefghijklmnopqrstuvwxyz"
THIRTY = "9" * 30
LEAST_OF_THIRTY = "1" + "0" * 29
LEAST_OF_THIRTY_ONE = "1" + "0" * 30

NUMBERS = (
    (0, "0"), (1, "1"), (7, "7"), (9, "9"), (10, "10"), (100, "100"), (1234567890, "1234567890"),
    (-1, "-1"), (-9, "-9"), (-10, "-10"), (-205, "-205"),
    (10 ** 29, LEAST_OF_THIRTY), (10 ** 30 - 1, THIRTY), (-(10 ** 29), "-" + LEAST_OF_THIRTY),
    (1 - 10 ** 30, "-" + THIRTY),
)

NO_NUMBERS = (
    "", "-", "-0", "00", "01", "-01", "-00", "000", "+1", "+0", "+", "--1", "1-", "1-1", "- 1",
    " ", " 1", "1 ", " 0", "0 ", "1\n", "\n1", "\n", "1\t", "\t1", "\t", "1 0", "1_0", "_1", "1_",
    "1.0", "1.", ".1", ".",
    "a", "1a", "a1", "-a", "x10", "0x1", "1e3", "0b1", "one", "None", "True", "1/2", "1,000", "(1)", "~", "!", ":", "/",
    LEAST_OF_THIRTY_ONE, "-" + LEAST_OF_THIRTY_ONE, "9" * 31, "-" + "9" * 31, "0" * 31, "0" + THIRTY, "-0" + THIRTY,
    "1" * 5000, "-" + "1" * 5000, "0" * 5000,
)


class WordsTest(unittest.TestCase):

    def test_words(self):
        for text in ("", " ", "     ", "a", "so it is", " a ", "~", "!", "a\\nb", "\"'", "-", "0", "x" * 100000):
            with self.subTest(text[:20]):
                self.assertIs(is_words(text), True)

    def test_each_plain_sign_is_words(self):
        for code in range(32, 127):
            self.assertIs(is_words(chr(code)), True)

    def test_row_ends_and_tabs_are_no_words(self):
        for sign in ("\n", "\t"):
            for text in (sign, sign + "a", "a" + sign + "b", "a" + sign, sign + sign, " " + sign + " ",
                         "x" * 9999 + sign):
                with self.subTest(text[:20]):
                    self.assertIs(is_words(text), False)

    def test_row_end_and_tab_together(self):
        self.assertIs(is_words("\n\t"), False)
        self.assertIs(is_words("a\tb\nc"), False)


class NameTest(unittest.TestCase):

    def test_one_to_eight_letters(self):
        for many in range(1, 9):
            with self.subTest(many):
                self.assertIs(is_name("abcdefgh"[:many]), True)
                self.assertIs(is_name("z" * many), True)

    def test_each_letter(self):
        for letter in LETTERS:
            self.assertIs(is_name(letter), True)
            self.assertIs(is_name("m" + letter + "m"), True)

    def test_no_letter_and_too_many(self):
        for text in ("", "abcdefghi", "a" * 10, "a" * 1000):
            with self.subTest(text[:20]):
                self.assertIs(is_name(text), False)

    def test_no_other_sign_at_head_within_or_end(self):
        others = [chr(code) for code in range(32, 127) if chr(code) not in LETTERS] + ["\n", "\t"]
        for sign in others:
            for text in (sign, sign + "ab", "a" + sign + "b", "ab" + sign, "abcdefg" + sign, "abcdefgh" + sign):
                with self.subTest(text):
                    self.assertIs(is_name(text), False)


class NumberTest(RefusalCase):

    def test_written(self):
        for number, text in NUMBERS:
            with self.subTest(text):
                self.assertEqual(number_text(number), text)

    def test_read(self):
        for number, text in NUMBERS:
            with self.subTest(text):
                self.assertEqual(read_number(text), number)
                self.assertIs(type(read_number(text)), int)

    def test_written_and_read_again(self):
        for number in list(range(-1200, 1201)) + [sign * 10 ** many for many in range(30) for sign in (1, -1)]:
            self.assertEqual(read_number(number_text(number)), number)

    def test_too_many_figures_are_not_written(self):
        for number in (10 ** 30, 10 ** 30 + 1, 10 ** 31, 10 ** 5000):
            self.assert_refused("NoText", number_text, number)
            self.assert_refused("NoText", number_text, -number)

    def test_what_writes_no_number_is_not_read(self):
        for text in NO_NUMBERS:
            with self.subTest(text[:40]):
                self.assert_refused("NoText", read_number, text)


class MarkTest(RefusalCase):

    marks = (
        ((0, 1), "0.1"), ((1, 1), "1.1"), ((1, 2), "1.2"), ((12, 345), "12.345"), ((0, 10), "0.10"), ((10, 1), "10.1"),
        ((10 ** 30 - 1, 10 ** 30 - 1), THIRTY + "." + THIRTY), ((0, 10 ** 29), "0." + LEAST_OF_THIRTY),
    )

    def test_written(self):
        for mark, text in self.marks:
            with self.subTest(text):
                self.assertEqual(mark_text(mark), text)

    def test_read(self):
        for mark, text in self.marks:
            with self.subTest(text):
                self.assertEqual(read_mark(text), mark)
                self.assertIsInstance(read_mark(text), tuple)

    def test_written_and_read_again(self):
        for window in range(25):
            for count in range(1, 25):
                self.assertEqual(read_mark(mark_text((window, count))), (window, count))

    def test_order_is_by_window_then_count(self):
        texts = ["0.1", "0.2", "0.10", "1.1", "1.9", "2.1", "10.1"]
        marks = [read_mark(text) for text in texts]
        self.assertEqual([mark_text(mark) for mark in sorted(reversed(marks))], texts)

    def test_too_many_figures_are_not_written(self):
        for mark in ((10 ** 30, 1), (0, 10 ** 30), (10 ** 30, 10 ** 30), (0, 10 ** 5000)):
            self.assert_refused("NoText", mark_text, mark)

    def test_parts_beyond_their_bounds_are_written(self):
        self.assertEqual(mark_text((-1, 0)), "-1.0")

    def test_another_number_of_parts_is_not_read(self):
        for text in ("", "1", "0", "1.1.1", "1.2.3.4", "1,1", "1/1", "1 1", "."):
            with self.subTest(text):
                self.assert_refused("NoText", read_mark, text)

    def test_counts_and_windows_out_of_bounds_are_not_read(self):
        for text in ("0.0", "1.0", "1.-1", "-1.1", "-1.-1", "-1.0", "0.-0", "-0.1"):
            with self.subTest(text):
                self.assert_refused("NoText", read_mark, text)

    def test_parts_without_signs_are_not_read(self):
        for text in (".", ".1", "1.", "..", "1..1", ".1.1", "1.1."):
            with self.subTest(text):
                self.assert_refused("NoText", read_mark, text)

    def test_parts_that_are_no_numbers_are_not_read(self):
        for part in NO_NUMBERS:
            for text in (part + ".1", "1." + part):
                with self.subTest(text[:40]):
                    self.assert_refused("NoText", read_mark, text)

    def test_blanks_and_row_ends_are_not_read(self):
        for text in (" 1.1", "1.1 ", "1 .1", "1. 1", "1.1\n", "\n1.1", "1.1\t", "1.\n1"):
            with self.subTest(text):
                self.assert_refused("NoText", read_mark, text)


if __name__ == "__main__":
    unittest.main()
