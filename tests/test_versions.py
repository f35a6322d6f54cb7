"""Promise [12]: versions, which of two is the later, and their texts."""

import itertools
import unittest

from helper import RefusalCase
from twotabs.versions import alike, is_in, later, read_version, version_text

A = ((0, 1, 1),)
B = ((0, 1, 1), (-2, 3, 4))
C = ((0, 1, 2),)
TOO_GREAT = 10 ** 30
GREAT = TOO_GREAT - 1
THIRTY = "9" * 30

WRITTEN = (
    ((4, ((0, 1, 2),), "so it is"), "4 0.1.2 so it is"),
    ((1, A, ""), "1 0.1.1 "),
    ((1, A, " "), "1 0.1.1  "),
    ((1, A, "   "), "1 0.1.1    "),
    ((1, A, "-"), "1 0.1.1 -"),
    ((1, A, "- "), "1 0.1.1 - "),
    ((1, A, " -"), "1 0.1.1  -"),
    ((1, A, " a"), "1 0.1.1  a"),
    ((1, A, "a "), "1 0.1.1 a "),
    ((1, A, "a  b"), "1 0.1.1 a  b"),
    ((1, A, "2 0.1.1 x"), "1 0.1.1 2 0.1.1 x"),
    ((12, B, "x"), "12 0.1.1/-2.3.4 x"),
    ((GREAT, ((-GREAT, 0, GREAT),), "x"), f"{THIRTY} -{THIRTY}.0.{THIRTY} x"),
    ((1, (), ""), "1 -"),
    ((10, (), ""), "10 -"),
    ((GREAT, (), ""), THIRTY + " -"),
)

# Rising: by beat, then place, then words.
RISING = (
    (1, (), ""), (1, A, ""), (1, A, "a"), (1, A, "b"), (1, B, "a"), (1, C, "a"), (2, (), ""), (2, A, "a"), (9, C, "z"),
    (10, (), ""), (10, A, ""),
)


class KindTest(unittest.TestCase):

    def test_in(self):
        for version in ((1, A, "a"), (1, A, ""), (7, B, "-"), (10 ** 40, C, "x")):
            self.assertIs(is_in(version), True)

    def test_out(self):
        for beat in (1, 2, 10 ** 40):
            self.assertIs(is_in((beat, (), "")), False)

    def test_alike_whatever_the_beats(self):
        for place, words in ((A, "a"), (A, ""), (B, "so it is"), ((), "")):
            for one, other in itertools.product((1, 2, 100), repeat=2):
                with self.subTest((one, other, words)):
                    self.assertIs(alike((one, place, words), (other, place, words)), True)

    def test_not_alike(self):
        things = ((A, "a"), (A, ""), (B, "a"), (C, "a"), (A, "A"), (A, "a "), ((), ""))
        for one, other in itertools.permutations(things, 2):
            for beats in ((1, 1), (1, 2), (2, 1)):
                with self.subTest((one, other, beats)):
                    self.assertIs(alike((beats[0],) + one, (beats[1],) + other), False)


class LaterTest(unittest.TestCase):

    def test_none_is_earlier_than_all(self):
        for version in RISING:
            self.assertEqual(later(version, None), version)
            self.assertEqual(later(None, version), version)

    def test_none_and_none(self):
        self.assertIsNone(later(None, None))

    def test_the_same(self):
        for version in RISING:
            self.assertEqual(later(version, version), version)

    def test_by_beat_then_place_then_words(self):
        for low, high in itertools.combinations(RISING, 2):
            with self.subTest((low, high)):
                self.assertEqual(later(low, high), high)
                self.assertEqual(later(high, low), high)


class TextTest(RefusalCase):

    def test_written(self):
        for version, text in WRITTEN:
            with self.subTest(text):
                self.assertEqual(version_text(version), text)

    def test_read(self):
        for version, text in WRITTEN:
            with self.subTest(text):
                self.assertEqual(read_version(text), version)
                self.assertIs(type(read_version(text)), tuple)

    def test_written_and_read_again(self):
        words = ["", "-", " ", "  ", "~", "\\n", "x" * 5000] + [
            "".join(signs) for many in (1, 2, 3, 4) for signs in itertools.product(" -a", repeat=many)]
        for text in words:
            for version in ((1, A, text), (30, B, text)):
                self.assertEqual(read_version(version_text(version)), version)

    def test_each_plain_sign_in_the_words(self):
        for code in range(32, 127):
            for words in (chr(code), "a" + chr(code) + "b"):
                if "%" not in words:
                    self.assertEqual(version_text((3, A, words)), "3 0.1.1 " + words)
                    self.assertEqual(read_version("3 0.1.1 " + words), (3, A, words))

    def test_long_places(self):
        place = tuple([(at - 7, at, at + 1) for at in range(4000)])
        text = version_text((5, place, "a b"))
        self.assertTrue(text.startswith("5 -7.0.1/-6.1.2/") and text.endswith("/3992.3999.4000 a b"))
        self.assert_same(read_version(text), (5, place, "a b"))

    def test_signs_left_out(self):
        for text in ("", "4", "4 ", "40.1.2 x", "4 0.1.2", "4 0.12 x", "4 01.2 x", " 0.1.2 x", "4 .1.2 x", "4 0..2 x",
                     "4 0.1. x", "4 0.1.2x", "4-", "-", " -", "0.1.2 x", "0.1.2"):
            with self.subTest(text):
                self.assert_refused("NoText", read_version, text)

    def test_signs_put_in(self):
        for text in (" 4 0.1.2 x", "4  0.1.2 x", "4 0.1.2/ x", "4 /0.1.2 x", "4 0.1.2. x", "4 0.1.2.1 x", "4. 0.1.2 x",
                     "+4 0.1.2 x", "04 0.1.2 x", "4 00.1.2 x", "4 0.01.2 x", "4 0.1.02 x", "4 -0.1.2 x", "\n4 0.1.2 x",
                     "4 (0.1.2) x", "4 0.1.2//0.1.3 x", " 4 -", "4  -", "04 -", "4 --", "4 -/0.1.2 x"):
            with self.subTest(text):
                self.assert_refused("NoText", read_version, text)

    def test_signs_exchanged(self):
        for text in ("4\t0.1.2 x", "4 0.1.2\tx", "4\n0.1.2 x", "4 0.1.2\nx", "4,0.1.2 x", "4 0,1,2 x", "a 0.1.2 x",
                     "4 a.1.2 x", "4 0.a.2 x", "4 0.1.a x", "4 0.1.2,0.1.3 x", "4\t-", "4 _", "4 ~", "4 None",
                     "4 () x", "x 0.1.2 4"):
            with self.subTest(text):
                self.assert_refused("NoText", read_version, text)

    def test_no_beat(self):
        for beat in ("0", "-1", "-4", "-0", "00", "01", "-", "", "a", "1.1", "1" + "0" * 30, "9" * 31, "1" * 5000):
            for rest in (" 0.1.2 x", " 0.1.2 ", " -"):
                with self.subTest((beat + rest)[:50]):
                    self.assert_refused("NoText", read_version, beat + rest)

    def test_no_place(self):
        for place in ("", "0", "0.1", "0.1.0", "0.-1.1", "0.1.1/", "/", "0.1.1/-", "-/0.1.1", "0.1.1/0.1.0",
                      "1" + "0" * 30 + ".1.1", "0.1." + "1" * 31):
            with self.subTest(place):
                self.assert_refused("NoText", read_version, f"4 {place} x")

    def test_words_behind_a_piece_that_is_out(self):
        for text in ("4 - ", "4 -  ", "4 - x", "4 - -", "4 -x", "4 -\n", "4 -\t", "4 - \n", "4 - 0.1.2 x"):
            with self.subTest(text):
                self.assert_refused("NoText", read_version, text)

    def test_row_ends_and_tabs_in_the_words(self):
        for sign in ("\n", "\t"):
            for words in (sign, "a" + sign, sign + "a", "a" + sign + "b", " " + sign, sign + " ", "x" * 999 + sign):
                with self.subTest(words[:10]):
                    self.assert_refused("NoText", read_version, "4 0.1.2 " + words)

    def test_thirty_one_figures_are_not_written(self):
        for bad in (TOO_GREAT, 10 ** 5000):
            for version in ((bad, A, "x"), (bad, (), ""), (4, ((bad, 1, 1),), "x"), (4, ((-bad, 1, 1),), "x"),
                            (4, ((0, bad, 1),), "x"), (4, A + ((0, 1, bad),), "x")):
                self.assert_refused("NoText", version_text, version)

    def test_beats_beyond_their_bounds_are_written(self):
        self.assertEqual(version_text((0, A, "x")), "0 0.1.1 x")
        self.assertEqual(version_text((-1, (), "")), "-1 -")


if __name__ == "__main__":
    unittest.main()
