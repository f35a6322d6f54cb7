"""Promises [15] and [16]: the seven deeds, what they tell, and how they are refused."""

import itertools
import random
import unittest

from helper import RefusalCase
from twotabs.deeds import done
from twotabs.sheets import Sheet

A, B, C, D = (1, 1), (1, 2), (1, 3), (2, 1)
OUT = (1, 4)
STRANGE = (9, 9)
NEW = (3, 7)
STEP = (0, 3, 7)
AHEAD = (-1, 3, 7)

AT_A = ((0, 1, 1),)
AT_B = ((0, 1, 1), (0, 1, 2))
AT_C = ((0, 1, 1), (0, 1, 2), (0, 1, 3))
AT_D = ((5, 2, 1),)

PAIRS = [(A, (1, AT_A, "one")), (B, (2, AT_B, "two")), (C, (3, AT_C, "three")), (OUT, (5, (), "")),
         (D, (4, AT_D, "four"))]
TEXT = "one two three four"

NO_WORDS = ("\n", "\t", "a\n", "\tb", "a\nb", "a\tb")


def out(beat):
    return (beat, (), "")


class DeedCase(RefusalCase):
    """Each deed is done at beat 20 by window 3 with count 7 on one sheet, which stays as it was."""

    def setUp(self):
        self.sheet = Sheet(PAIRS)

    def tearDown(self):
        self.assertEqual(self.sheet.pairs(), PAIRS)

    def assert_does(self, deed, pairs, text):
        """The deed tells just these pairs, and the sheet given them has these words."""
        with self.subTest(deed):
            told = done(self.sheet, deed, 20, 3, 7)
            self.assertEqual(told, pairs)
            self.assertIs(type(told), list)
            self.assertEqual({type(pair) for pair in told}, {tuple})
            self.assertEqual(self.sheet.given(told).text(), text.replace(" ", "\n") + "\n" if text else "")

    def assert_not_done(self, name, *deed):
        with self.subTest(deed):
            self.assert_refused(name, done, self.sheet, deed, 20, 3, 7)
            self.assertEqual(self.sheet.pairs(), PAIRS)


class PutTest(DeedCase):

    def test_at_the_head(self):
        self.assert_does(("put", None, "new"), [(NEW, (20, (AHEAD,), "new"))], "new " + TEXT)

    def test_in_the_middle(self):
        self.assert_does(("put", A, "new"), [(NEW, (20, AT_A + (AHEAD,), "new"))], "one new two three four")
        self.assert_does(("put", B, "new"), [(NEW, (20, AT_B + (AHEAD,), "new"))], "one two new three four")
        self.assert_does(("put", C, "new"), [(NEW, (20, AT_C + (STEP,), "new"))], "one two three new four")

    def test_at_the_end(self):
        self.assert_does(("put", D, "new"), [(NEW, (20, AT_D + (STEP,), "new"))], TEXT + " new")

    def test_on_an_empty_sheet(self):
        self.assertEqual(done(Sheet([]), ("put", None, "x"), 1, 1, 1), [((1, 1), (1, ((0, 1, 1),), "x"))])
        self.assertEqual(done(Sheet([((1, 1), (1, (), ""))]), ("put", None, "x"), 2, 0, 5),
                         [((0, 5), (2, ((0, 0, 5),), "x"))])

    def test_words_that_are_none_or_blanks(self):
        for words in ("", " ", "-", "a  b ", "x" * 5000):
            told = done(self.sheet, ("put", D, words), 20, 3, 7)
            self.assertEqual(told, [(NEW, (20, AT_D + (STEP,), words))])

    def test_no_words(self):
        for words in NO_WORDS:
            for behind in (None, A, OUT, STRANGE):
                self.assert_not_done("NoWords", "put", behind, words)

    def test_no_piece(self):
        for behind in (OUT, STRANGE):
            self.assert_not_done("NoPiece", "put", behind, "x")


class TakeTest(DeedCase):

    def test_each(self):
        self.assert_does(("take", A), [(A, out(20))], "two three four")
        self.assert_does(("take", B), [(B, out(20))], "one three four")
        self.assert_does(("take", C), [(C, out(20))], "one two four")
        self.assert_does(("take", D), [(D, out(20))], "one two three")

    def test_the_only_one(self):
        sheet = Sheet([(A, (1, AT_A, "one"))])
        told = done(sheet, ("take", A), 2, 1, 2)
        self.assertEqual((told, sheet.given(told).lines()), ([(A, out(2))], []))

    def test_no_piece(self):
        for mark in (OUT, STRANGE):
            self.assert_not_done("NoPiece", "take", mark)


class MoveTest(DeedCase):

    def test_to_the_head(self):
        self.assert_does(("move", B, None), [(B, (20, (AHEAD,), "two"))], "two one three four")
        self.assert_does(("move", D, None), [(D, (20, (AHEAD,), "four"))], "four one two three")

    def test_to_the_middle(self):
        self.assert_does(("move", A, B), [(A, (20, AT_B + (AHEAD,), "one"))], "two one three four")
        self.assert_does(("move", A, C), [(A, (20, AT_C + (STEP,), "one"))], "two three one four")
        self.assert_does(("move", D, A), [(D, (20, AT_A + (AHEAD,), "four"))], "one four two three")

    def test_to_the_end(self):
        self.assert_does(("move", A, D), [(A, (20, AT_D + (STEP,), "one"))], "two three four one")
        self.assert_does(("move", C, D), [(C, (20, AT_D + (STEP,), "three"))], "one two four three")

    def test_to_where_it_stands(self):
        self.assert_does(("move", A, None), [(A, (20, (AHEAD,), "one"))], TEXT)
        self.assert_does(("move", B, A), [(B, (20, AT_A + (AHEAD,), "two"))], TEXT)
        self.assert_does(("move", C, B), [(C, (20, AT_B + (STEP,), "three"))], TEXT)
        self.assert_does(("move", D, C), [(D, (20, AT_C + (STEP,), "four"))], TEXT)

    def test_the_mark_itself_is_left_aside(self):
        # Behind A stands B, of rank -4, and then C, of rank 9: the new rank is one less than that of C.
        sheet = Sheet([(A, (1, AT_A, "one")), (B, (2, AT_A + ((-4, 1, 2),), "two")),
                       (C, (3, AT_A + ((9, 1, 3),), "three"))])
        self.assertEqual(done(sheet, ("move", B, A), 20, 3, 7), [(B, (20, AT_A + ((8, 3, 7),), "two"))])

    def test_no_piece(self):
        for mark, behind in ((OUT, None), (STRANGE, None), (OUT, A), (STRANGE, A), (A, OUT), (A, STRANGE), (A, A),
                             (D, D), (OUT, OUT), (STRANGE, STRANGE), (OUT, STRANGE)):
            self.assert_not_done("NoPiece", "move", mark, behind)


class WriteTest(DeedCase):

    def test_each(self):
        self.assert_does(("write", A, "new"), [(A, (20, AT_A, "new"))], "new two three four")
        self.assert_does(("write", B, "new"), [(B, (20, AT_B, "new"))], "one new three four")
        self.assert_does(("write", D, "new"), [(D, (20, AT_D, "new"))], "one two three new")

    def test_the_words_it_has(self):
        self.assert_does(("write", C, "three"), [(C, (20, AT_C, "three"))], TEXT)

    def test_no_signs(self):
        self.assert_does(("write", B, ""), [(B, (20, AT_B, ""))], "one  three four")

    def test_no_words(self):
        for words in NO_WORDS:
            for mark in (A, D, OUT, STRANGE):
                self.assert_not_done("NoWords", "write", mark, words)

    def test_no_piece(self):
        for mark in (OUT, STRANGE):
            for words in ("x", ""):
                self.assert_not_done("NoPiece", "write", mark, words)


class PartTest(DeedCase):

    def test_within(self):
        self.assert_does(("part", A, 1), [(A, (20, AT_A, "o")), (NEW, (20, AT_A + (AHEAD,), "ne"))],
                         "o ne two three four")
        self.assert_does(("part", C, 4), [(C, (20, AT_C, "thre")), (NEW, (20, AT_C + (STEP,), "e"))],
                         "one two thre e four")
        self.assert_does(("part", D, 2), [(D, (20, AT_D, "fo")), (NEW, (20, AT_D + (STEP,), "ur"))],
                         "one two three fo ur")

    def test_ahead_of_the_first_sign_and_behind_the_last(self):
        self.assert_does(("part", B, 0), [(B, (20, AT_B, "")), (NEW, (20, AT_B + (AHEAD,), "two"))],
                         "one  two three four")
        self.assert_does(("part", B, 3), [(B, (20, AT_B, "two")), (NEW, (20, AT_B + (AHEAD,), ""))],
                         "one two  three four")

    def test_a_piece_without_signs(self):
        sheet = Sheet([(A, (1, AT_A, ""))])
        self.assertEqual(done(sheet, ("part", A, 0), 2, 1, 2),
                         [(A, (2, AT_A, "")), ((1, 2), (2, AT_A + ((0, 1, 2),), ""))])
        for many in (-1, 1):
            self.assert_refused("NoCut", done, sheet, ("part", A, many), 2, 1, 2)

    def test_marks_rise_though_the_new_one_is_the_lesser(self):
        self.assertEqual(done(self.sheet, ("part", D, 2), 20, 1, 9),
                         [((1, 9), (20, AT_D + ((0, 1, 9),), "ur")), (D, (20, AT_D, "fo"))])

    def test_no_piece_ahead_of_no_cut(self):
        for mark in (OUT, STRANGE):
            for many in (-1, 0, 1, 100):
                self.assert_not_done("NoPiece", "part", mark, many)

    def test_no_cut(self):
        for mark, many in ((A, -1), (A, 4), (A, -3), (A, 10 ** 40), (A, -10 ** 40), (C, 6), (C, -5), (D, 5)):
            self.assert_not_done("NoCut", "part", mark, many)


class JoinTest(DeedCase):

    def test_each(self):
        self.assert_does(("join", A), [(A, (20, AT_A, "onetwo")), (B, out(20))], "onetwo three four")
        self.assert_does(("join", B), [(B, (20, AT_B, "twothree")), (C, out(20))], "one twothree four")
        self.assert_does(("join", C), [(C, (20, AT_C, "threefour")), (D, out(20))], "one two threefour")

    def test_marks_rise_though_the_next_one_is_the_lesser(self):
        sheet = Sheet([(D, (1, AT_A, "four")), (A, (2, AT_B, "one"))])
        self.assertEqual(done(sheet, ("join", D), 20, 3, 7), [(A, out(20)), (D, (20, AT_A, "fourone"))])

    def test_of_one_place_the_next_by_mark(self):
        sheet = Sheet([(C, (1, AT_A, "c")), (A, (2, AT_A, "a")), (B, (3, AT_A, "b"))])
        self.assertEqual(done(sheet, ("join", A), 20, 3, 7), [(A, (20, AT_A, "ab")), (B, out(20))])
        self.assertEqual(done(sheet, ("join", B), 20, 3, 7), [(B, (20, AT_A, "bc")), (C, out(20))])
        self.assert_refused("NoPiece", done, sheet, ("join", C), 20, 3, 7)

    def test_pieces_without_signs(self):
        sheet = Sheet([(A, (1, AT_A, "")), (B, (2, AT_B, ""))])
        self.assertEqual(done(sheet, ("join", A), 20, 3, 7), [(A, (20, AT_A, "")), (B, out(20))])

    def test_no_piece(self):
        for mark in (OUT, STRANGE, D):
            self.assert_not_done("NoPiece", "join", mark)
        self.assert_refused("NoPiece", done, Sheet([(A, (1, AT_A, "a")), (B, out(2))]), ("join", A), 20, 3, 7)


class CarryTest(DeedCase):

    def test_to_the_head(self):
        self.assert_does(("carry", B, C, None), [(B, (20, (AHEAD,), "two")), (C, (20, (AHEAD, STEP), "three"))],
                         "two three one four")
        self.assert_does(("carry", D, D, None), [(D, (20, (AHEAD,), "four"))], "four one two three")

    def test_to_the_middle(self):
        self.assert_does(("carry", C, D, A),
                         [(C, (20, AT_A + (AHEAD,), "three")), (D, (20, AT_A + (AHEAD, STEP), "four"))],
                         "one three four two")
        self.assert_does(("carry", A, B, C),
                         [(A, (20, AT_C + (STEP,), "one")), (B, (20, AT_C + (STEP, STEP), "two"))],
                         "three one two four")

    def test_to_the_end(self):
        self.assert_does(("carry", A, C, D),
                         [(A, (20, AT_D + (STEP,), "one")), (B, (20, AT_D + (STEP, STEP), "two")),
                          (C, (20, AT_D + (STEP, STEP, STEP), "three"))], "four one two three")
        self.assert_does(("carry", A, A, D), [(A, (20, AT_D + (STEP,), "one"))], "two three four one")

    def test_all_lines(self):
        self.assert_does(("carry", A, D, None),
                         [(A, (20, (STEP,), "one")), (B, (20, (STEP,) * 2, "two")), (C, (20, (STEP,) * 3, "three")),
                          (D, (20, (STEP,) * 4, "four"))], TEXT)

    def test_to_where_they_stand(self):
        self.assert_does(("carry", B, C, A),
                         [(B, (20, AT_A + (STEP,), "two")), (C, (20, AT_A + (STEP, STEP), "three"))], TEXT)
        self.assert_does(("carry", A, B, None), [(A, (20, (AHEAD,), "one")), (B, (20, (AHEAD, STEP), "two"))], TEXT)

    def test_marks_rise_though_lines_fall(self):
        sheet = Sheet([(D, (1, AT_A, "d")), (B, (2, AT_B, "b")), (A, (3, AT_C, "a")), (C, (4, AT_D, "c"))])
        self.assertEqual(done(sheet, ("carry", D, A, C), 20, 3, 7),
                         [(A, (20, AT_D + (STEP,) * 3, "a")), (B, (20, AT_D + (STEP,) * 2, "b")),
                          (D, (20, AT_D + (STEP,), "d"))])

    def test_of_one_place_by_mark(self):
        sheet = Sheet([(C, (1, AT_A, "c")), (A, (2, AT_A, "a")), (B, (3, AT_A, "b")), (D, (4, AT_D, "d"))])
        self.assertEqual(done(sheet, ("carry", A, B, D), 20, 3, 7),
                         [(A, (20, AT_D + (STEP,), "a")), (B, (20, AT_D + (STEP, STEP), "b"))])
        self.assert_refused("NoStretch", done, sheet, ("carry", B, A, D), 20, 3, 7)

    def test_pieces_out_between_are_not_carried(self):
        self.assertEqual([mark for mark, version in done(self.sheet, ("carry", A, D, None), 20, 3, 7)], [A, B, C, D])

    def test_no_piece_ahead_of_no_stretch(self):
        for bad in (OUT, STRANGE):
            for first, last, behind in ((bad, A, None), (A, bad, None), (A, A, bad), (bad, bad, None), (bad, bad, bad),
                                        (bad, B, A), (B, bad, A), (C, A, bad), (bad, A, A), (A, bad, A), (A, bad, B)):
                self.assert_not_done("NoPiece", "carry", first, last, behind)

    def test_last_ahead_of_first(self):
        for first, last in itertools.combinations((D, C, B, A), 2):
            for behind in (None, A, B, C, D):
                self.assert_not_done("NoStretch", "carry", first, last, behind)

    def test_behind_one_of_the_lines(self):
        for first, last, behind in ((A, A, A), (A, B, A), (A, B, B), (A, C, B), (B, D, D), (D, D, D), (A, D, C)):
            self.assert_not_done("NoStretch", "carry", first, last, behind)

    def test_each_other_stretch_is_carried(self):
        marks, words = [A, B, C, D], TEXT.split()
        for start, end in itertools.combinations(range(5), 2):
            for at in [place for place in range(5) if place <= start or place > end]:
                kept, rest = words[start:end], words[:start] + words[end:]
                spot = at if at <= start else at - (end - start)
                deed = ("carry", marks[start], marks[end - 1], None if at == 0 else marks[at - 1])
                new = self.sheet.given(done(self.sheet, deed, 20, 3, 7))
                self.assertEqual(new.text().split(), rest[:spot] + kept + rest[spot:])


class BeatsTest(DeedCase):

    def test_all_new_versions_are_of_the_beat(self):
        deeds = (("put", A, "x"), ("take", A), ("move", A, B), ("write", A, "x"), ("part", A, 1), ("join", A),
                 ("carry", A, B, D))
        for deed in deeds:
            for beat in (1, 2, 99, 10 ** 40):
                told = done(self.sheet, deed, beat, 3, 7)
                self.assertEqual({version[0] for mark, version in told}, {beat})
                self.assertEqual([mark for mark, version in told], sorted({mark for mark, version in told}))

    def test_told_lists_are_the_askers_own(self):
        deed = ("carry", A, B, D)
        first = done(self.sheet, deed, 20, 3, 7)
        kept = list(first)
        first.clear()
        self.assertEqual(done(self.sheet, deed, 20, 3, 7), kept)


class ManyDeedsTest(unittest.TestCase):
    """Deeds one behind the other do to the lines what they say of them, and make no place or mark twice."""

    def random_deed(self, chance, lines):
        """A deed that is not refused, on these lines."""
        marks = [mark for mark, words in lines]
        kind = chance.choice(("put", "put", "put", "part", "take", "move", "write", "join", "carry"))
        if kind == "put" or len(marks) < 2:
            return ("put", chance.choice([None] + marks), f"w{chance.randrange(100)}")
        at = chance.randrange(len(marks))
        if kind == "move":
            return (kind, marks[at], chance.choice([None] + marks[:at] + marks[at + 1:]))
        if kind == "write":
            return (kind, marks[at], "new")
        if kind == "part":
            return (kind, marks[at], chance.randint(0, len(lines[at][1])))
        if kind == "join":
            return (kind, marks[max(at - 1, 0)])
        if kind == "carry":
            end = chance.randrange(at, len(marks))
            return (kind, marks[at], marks[end], chance.choice([None] + marks[:at] + marks[end + 1:]))
        return (kind, marks[at])

    def done_to_list(self, lines, deed, mark):
        """What the deed says of a plain list of lines."""
        marks = [each for each, words in lines]
        spot = {each: at for at, each in enumerate(marks)}
        kind = deed[0]
        if kind == "put":
            at = 0 if deed[1] is None else spot[deed[1]] + 1
            return lines[:at] + [(mark, deed[2])] + lines[at:]
        at = spot[deed[1]]
        if kind == "take":
            return lines[:at] + lines[at + 1:]
        if kind == "write":
            return lines[:at] + [(deed[1], deed[2])] + lines[at + 1:]
        if kind == "part":
            words = lines[at][1]
            return lines[:at] + [(deed[1], words[:deed[2]]), (mark, words[deed[2]:])] + lines[at + 1:]
        if kind == "join":
            return lines[:at] + [(deed[1], lines[at][1] + lines[at + 1][1])] + lines[at + 2:]
        end = at if kind == "move" else spot[deed[2]]
        rest = lines[:at] + lines[end + 1:]
        to = 0 if deed[-1] is None else [each for each, words in rest].index(deed[-1]) + 1
        return rest[:to] + lines[at:end + 1] + rest[to:]

    def test_many_deeds(self):
        for seed in range(25):
            chance = random.Random(seed)
            sheet, lines, places, counts = Sheet([]), [], {}, {1: 0, 2: 0, 3: 0}
            for beat in range(1, 90):
                window = chance.choice((1, 2, 3))
                counts[window] += 1
                deed = self.random_deed(chance, lines)
                lines = self.done_to_list(lines, deed, (window, counts[window]))
                told = done(sheet, deed, beat, window, counts[window])
                for mark, (new_beat, place, words) in told:
                    self.assertEqual(new_beat, beat)
                    if place != () and sheet.has(mark) and place == sheet.version(mark)[1]:
                        continue
                    if place != ():
                        self.assertNotIn(place, places)
                        places[place] = mark
                sheet = sheet.given(told)
                self.assertEqual(sheet.lines(), lines)

    def test_places_of_some_thousand_steps(self):
        long = tuple([(0, 1, count) for count in range(1, 4001)])
        sheet = Sheet([(A, (1, long, "one")), (B, (2, long + ((0, 1, 4001),), "two")), (D, (3, AT_D, "four"))])
        self.assertTrue(done(sheet, ("put", A, "x"), 20, 3, 7) == [(NEW, (20, long + (AHEAD,), "x"))])
        self.assertTrue(done(sheet, ("carry", A, B, D), 20, 3, 7) == [
            (A, (20, AT_D + (STEP,), "one")), (B, (20, AT_D + (STEP, STEP), "two"))])
        self.assertTrue(done(sheet, ("join", A), 20, 3, 7) == [(A, (20, long, "onetwo")), (B, out(20))])

    def test_many_lines_put_one_behind_the_other(self):
        sheet, behind = Sheet([]), None
        for count in range(1, 301):
            sheet = sheet.given(done(sheet, ("put", behind, str(count)), count, 1, count))
            behind = (1, count)
        self.assertEqual([words for mark, words in sheet.lines()], [str(count) for count in range(1, 301)])
        self.assertEqual(len(sheet.version(behind)[1]), 300)


if __name__ == "__main__":
    unittest.main()
