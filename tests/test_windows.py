"""Promises [24] and [25], and [2] as it touches them: a window, its deeds, undoing, and the base that it lies on."""

import random
import unittest

from helper import RefusalCase, random_deed
from twotabs.deeds import done
from twotabs.sheets import Sheet
from twotabs.windows import Window

A, B, C, D = (1, 1), (1, 2), (1, 3), (2, 1)
PA, PB, PC = ((0, 1, 1),), ((0, 1, 2),), ((0, 1, 3),)
PAIRS = [(A, (1, PA, "one")), (B, (2, PB, "two")), (C, (3, PC, "three")), (D, (4, (), ""))]
LINES = [(A, "one"), (B, "two"), (C, "three")]
NEW = (5, 8)

# Each deed with the marks that it touches and the words of the lines behind it.
DEEDS = (
    (("put", B, "new"), [NEW], ["one", "two", "new", "three"]),
    (("put", None, ""), [NEW], ["", "one", "two", "three"]),
    (("take", B), [B], ["one", "three"]),
    (("move", C, A), [C], ["one", "three", "two"]),
    (("move", A, None), [A], ["one", "two", "three"]),
    (("write", A, "uno"), [A], ["uno", "two", "three"]),
    (("write", A, "one"), [A], ["one", "two", "three"]),
    (("part", C, 2), [C, NEW], ["one", "two", "th", "ree"]),
    (("join", A), [A, B], ["onetwo", "three"]),
    (("carry", B, C, None), [B, C], ["two", "three", "one"]),
)
REFUSED = (
    ("NoWords", ("put", A, "a\tb")), ("NoWords", ("put", D, "a\nb")), ("NoPiece", ("put", D, "a")),
    ("NoPiece", ("take", D)), ("NoPiece", ("take", NEW)), ("NoPiece", ("move", A, A)), ("NoPiece", ("move", A, D)),
    ("NoWords", ("write", D, "\n")), ("NoPiece", ("write", D, "x")), ("NoPiece", ("part", D, 99)),
    ("NoCut", ("part", A, 4)), ("NoCut", ("part", A, -1)), ("NoPiece", ("join", C)), ("NoPiece", ("join", D)),
    ("NoPiece", ("carry", B, A, D)), ("NoStretch", ("carry", B, A, None)), ("NoStretch", ("carry", A, B, B)),
)


def window(count=7):
    return Window(5, 3, Sheet(PAIRS), count)


def state(one):
    """All that a window tells."""
    return (one.number, one.base(), one.counted(), one.draft().pairs(), one.lines(), one.unsaved())


def words(one):
    return [text for mark, text in one.lines()]


class NewTest(RefusalCase):

    def test_at_first(self):
        one = window()
        self.assertEqual(state(one), (5, 3, 7, PAIRS, LINES, []))
        self.assertIsInstance(one.draft(), Sheet)

    def test_nothing_to_undo(self):
        one = window()
        self.assert_refused("NoDeed", one.undo)
        self.assert_refused("NoDeed", one.again)
        self.assertEqual(state(one), (5, 3, 7, PAIRS, LINES, []))

    def test_on_a_sheet_without_pieces(self):
        one = Window(1, 0, Sheet([]), 0)
        self.assertEqual(state(one), (1, 0, 0, [], [], []))
        self.assertEqual(one.does(("put", None, "a"), 1), [(1, 1)])
        self.assertEqual(one.does(("put", (1, 1), "b"), 2), [(1, 2)])
        self.assertEqual(one.draft().pairs(), [
            ((1, 1), (1, ((0, 1, 1),), "a")), ((1, 2), (2, ((0, 1, 1), (0, 1, 2)), "b"))])


class DoesTest(RefusalCase):

    def test_each_deed(self):
        for deed, marks, lines in DEEDS:
            with self.subTest(deed):
                one = window()
                told = one.does(deed, 20)
                self.assertEqual(told, marks)
                self.assertIs(type(told), list)
                self.assertEqual(words(one), lines)
                self.assertEqual((one.unsaved(), one.counted(), one.base(), one.number), (marks, 8, 3, 5))
                pairs = done(Sheet(PAIRS), deed, 20, 5, 8)
                self.assertEqual(one.draft().pairs(), Sheet(PAIRS).given(pairs).pairs())

    def test_counts_rise_from_deed_to_deed(self):
        one = window()
        self.assertEqual([one.does(("put", None, "x"), beat) for beat in (20, 21, 25)], [[(5, 8)], [(5, 9)], [(5, 10)]])
        self.assertEqual((one.counted(), one.unsaved()), (10, [(5, 8), (5, 9), (5, 10)]))
        self.assertEqual([one.draft().version((5, count))[0] for count in (8, 9, 10)], [20, 21, 25])

    def test_a_deed_is_done_on_the_draft(self):
        one = window()
        one.does(("take", B), 20)
        self.assertEqual(one.does(("join", A), 21), [A, C])
        self.assertEqual(words(one), ["onethree"])
        self.assert_refused("NoPiece", one.does, ("take", B), 22)

    def test_refused(self):
        for name, deed in REFUSED:
            with self.subTest(deed):
                one = window()
                self.assert_refused(name, one.does, deed, 20)
                self.assertEqual(state(one), (5, 3, 7, PAIRS, LINES, []))
                self.assert_refused("NoDeed", one.undo)
                self.assertEqual(one.does(("put", A, "x"), 20), [NEW])

    def test_a_refused_one_forgets_nothing(self):
        one = window()
        one.does(("write", A, "x"), 20)
        one.does(("write", B, "y"), 21)
        one.undo()
        before = state(one)
        for name, deed in REFUSED:
            self.assert_refused(name, one.does, deed, 22)
        self.assertEqual(state(one), before)
        self.assertEqual(one.again(), [B])
        self.assertEqual(words(one), ["x", "y", "three"])


class UndoTest(RefusalCase):

    def test_each_deed(self):
        for deed, marks, lines in DEEDS:
            with self.subTest(deed):
                one = window()
                one.does(deed, 20)
                behind = one.draft().pairs()
                for turn in range(2):
                    told = one.undo()
                    self.assertEqual((told, type(told)), (marks, list))
                    self.assertEqual(state(one), (5, 3, 8, PAIRS, LINES, []))
                    self.assert_refused("NoDeed", one.undo)
                    self.assertEqual(state(one), (5, 3, 8, PAIRS, LINES, []))
                    told = one.again()
                    self.assertEqual((told, type(told)), (marks, list))
                    self.assertEqual((one.draft().pairs(), one.unsaved(), one.counted()), (behind, marks, 8))
                    self.assert_refused("NoDeed", one.again)
                    self.assertEqual((one.draft().pairs(), one.unsaved(), one.counted()), (behind, marks, 8))

    def test_a_mark_that_was_not_there_is_not_there_again(self):
        for deed in (("put", A, "x"), ("part", A, 1)):
            one = window()
            one.does(deed, 20)
            self.assertIsNotNone(one.draft().version(NEW))
            one.undo()
            self.assertIsNone(one.draft().version(NEW))
            self.assertNotIn(NEW, [mark for mark, version in one.draft().pairs()])
            one.again()
            self.assertTrue(one.draft().has(NEW))

    def test_a_piece_that_was_out_is_out_again(self):
        one = window()
        one.does(("take", A), 20)
        one.does(("put", None, "x"), 21)
        one.undo()
        self.assertEqual(one.draft().version(A), (20, (), ""))
        self.assertEqual(one.unsaved(), [A])

    def test_a_deed_behind_an_undoing(self):
        one = window()
        one.does(("write", A, "x"), 20)
        one.undo()
        self.assertEqual(one.does(("put", None, "y"), 21), [(5, 9)])
        self.assert_refused("NoDeed", one.again)
        self.assertEqual((words(one), one.unsaved(), one.counted()), (["y", "one", "two", "three"], [(5, 9)], 9))

    def test_unsaved_marks_each_once(self):
        one = window()
        for beat, deed in enumerate((("write", C, "x"), ("join", A), ("write", C, "y"), ("put", C, "z")), 20):
            one.does(deed, beat)
        told = [one.unsaved()]
        for turn in range(4):
            one.undo()
            told.append(one.unsaved())
        self.assertEqual(told, [[A, B, C, (5, 11)], [A, B, C], [A, B, C], [C], []])
        back = []
        for turn in range(4):
            one.again()
            back.append(one.unsaved())
        self.assertEqual(back, told[-2::-1])

    def test_down_to_none_and_up_to_the_last(self):
        for seed in range(60):
            chance = random.Random(seed)
            one = window()
            drafts, touched = [one.draft().pairs()], []
            for beat in range(20, 40):
                deed = random_deed(chance, [mark for mark, text in one.lines()])
                try:
                    touched.append(one.does(deed, beat))
                except ValueError:
                    continue
                drafts.append(one.draft().pairs())
            count = one.counted()
            self.assertEqual(count, 7 + len(touched))
            for at in reversed(range(len(touched))):
                self.assertEqual(one.undo(), touched[at])
                self.assertEqual(one.draft().pairs(), drafts[at])
                self.assertEqual(one.unsaved(), sorted({mark for marks in touched[:at] for mark in marks}))
            self.assert_refused("NoDeed", one.undo)
            for at in range(len(touched)):
                self.assertEqual(one.again(), touched[at])
                self.assertEqual(one.draft().pairs(), drafts[at + 1])
                self.assertEqual(one.unsaved(), sorted({mark for marks in touched[:at + 1] for mark in marks}))
            self.assert_refused("NoDeed", one.again)
            self.assertEqual(one.counted(), count)


LATER = [(A, (1, PA, "one")), (B, (9, PB, "TWO")), (C, (10, (), "")), (D, (11, PC, "back")),
         ((3, 1), (8, PB + PA, "n"))]


class RebaseTest(RefusalCase):

    def test_nothing_unsaved(self):
        one = window()
        self.assertIsNone(one.rebase(6, Sheet(LATER)))
        self.assertEqual(state(one), (5, 6, 7, LATER, Sheet(LATER).lines(), []))

    def test_the_same_base(self):
        one = window()
        one.does(("write", A, "x"), 20)
        one.does(("put", None, "y"), 21)
        before = state(one)
        one.rebase(3, Sheet(PAIRS))
        self.assertEqual(state(one), before)
        self.assertEqual((one.undo(), one.undo()), ([(5, 9)], [A]))
        self.assertEqual(state(one), (5, 3, 9, PAIRS, LINES, []))

    def test_a_later_base(self):
        one = window()
        one.does(("write", A, "x"), 20)
        one.does(("put", A, "y"), 21)
        own = [(A, (20, PA, "x")), ((5, 9), (21, PA + ((0, 5, 9),), "y"))]
        one.rebase(6, Sheet(LATER))
        self.assertEqual((one.base(), one.counted(), one.unsaved()), (6, 9, [A, (5, 9)]))
        self.assertEqual(one.draft().pairs(), Sheet(LATER).given(own).pairs())
        self.assertEqual(words(one), ["x", "y", "TWO", "n", "back"])

    def test_undoing_behind_it(self):
        one = window()
        one.does(("write", A, "x"), 20)
        one.does(("put", A, "y"), 21)
        one.rebase(6, Sheet(LATER))
        self.assert_refused("NoDeed", one.again)
        self.assertEqual(one.undo(), [(5, 9)])
        self.assertIsNone(one.draft().version((5, 9)))
        self.assertEqual(one.undo(), [A])
        self.assertEqual(state(one), (5, 6, 9, LATER, Sheet(LATER).lines(), []))
        self.assertEqual((one.again(), one.again()), ([A], [(5, 9)]))
        self.assertEqual(words(one), ["x", "y", "TWO", "n", "back"])

    def test_undone_entries_are_forgotten(self):
        for save, pairs in ((3, PAIRS), (6, LATER)):
            one = window()
            one.does(("write", A, "x"), 20)
            one.does(("write", B, "y"), 21)
            one.undo()
            one.rebase(save, Sheet(pairs))
            self.assert_refused("NoDeed", one.again)
            self.assertEqual((one.unsaved(), one.draft().version(B)), ([A], dict(pairs)[B]))
            self.assertEqual(one.undo(), [A])
            self.assertEqual(one.draft().pairs(), pairs)

    def test_crossed(self):
        one = window()
        for beat, deed in enumerate((("write", C, "x"), ("join", A), ("put", None, "y")), 20):
            one.does(deed, beat)
        one.does(("write", A, "z"), 23)
        one.undo()
        before = state(one)
        error = self.assert_refused("Crossed", one.rebase, 6, Sheet(LATER))
        self.assertEqual(error.marks, [B, C])
        self.assertIs(type(error.marks), list)
        self.assertEqual(state(one), before)
        # Undone entries stay, too, and the window's own list is not the one that is told.
        error.marks.clear()
        self.assertEqual(one.again(), [A])
        self.assertEqual(self.assert_refused("Crossed", one.rebase, 6, Sheet(LATER)).marks, [B, C])
        one.rebase(4, Sheet(PAIRS))
        self.assertEqual(one.base(), 4)

    def test_crossed_by_a_beat_alone(self):
        one = window()
        one.does(("write", A, "x"), 20)
        other = [(A, (15, PA, "one"))] + PAIRS[1:]
        self.assertEqual(self.assert_refused("Crossed", one.rebase, 4, Sheet(other)).marks, [A])

    def test_crossed_also_where_the_draft_is_alike_to_the_new_base(self):
        one = window()
        one.does(("write", B, "TWO"), 20)
        self.assertEqual(self.assert_refused("Crossed", one.rebase, 6, Sheet(LATER)).marks, [B])

    def test_crossed_by_a_piece_that_was_not_there(self):
        one = window()
        one.does(("put", None, "x"), 20)
        other = PAIRS + [(NEW, (15, PB, "strange"))]
        self.assertEqual(self.assert_refused("Crossed", one.rebase, 4, Sheet(other)).marks, [NEW])

    def test_what_is_undone_does_not_cross(self):
        one = window()
        one.does(("write", B, "x"), 20)
        one.undo()
        one.rebase(6, Sheet(LATER))
        self.assertEqual(state(one), (5, 6, 8, LATER, Sheet(LATER).lines(), []))

    def test_what_is_not_unsaved_does_not_cross(self):
        one = window()
        one.does(("write", A, "x"), 20)
        one.rebase(6, Sheet(LATER))
        for mark, version in LATER[1:]:
            self.assertEqual(one.draft().version(mark), version)

    def test_a_deed_behind_it_counts_on(self):
        one = window()
        one.does(("put", None, "x"), 20)
        one.rebase(6, Sheet(LATER))
        self.assertEqual(one.does(("put", (3, 1), "y"), 21), [(5, 9)])
        self.assertEqual(words(one), ["x", "one", "TWO", "n", "y", "back"])

    def test_again_and_again(self):
        one = window()
        one.does(("write", A, "x"), 20)
        one.rebase(6, Sheet(LATER))
        self.assert_refused("Crossed", one.rebase, 7, Sheet(LATER[1:]))
        one.does(("write", B, "y"), 21)
        self.assertEqual(self.assert_refused("Crossed", one.rebase, 7, Sheet(PAIRS)).marks, [B])
        one.undo()
        one.rebase(7, Sheet(PAIRS))
        self.assertEqual((one.base(), words(one)), (7, ["x", "two", "three"]))


class SavedTest(RefusalCase):

    def test_saved(self):
        one = window()
        one.does(("write", A, "x"), 20)
        one.does(("write", B, "y"), 21)
        one.undo()
        self.assertIsNone(one.saved(9, Sheet(LATER)))
        self.assertEqual(state(one), (5, 9, 9, LATER, Sheet(LATER).lines(), []))
        self.assert_refused("NoDeed", one.undo)
        self.assert_refused("NoDeed", one.again)

    def test_the_base_is_the_new_sheet(self):
        one = window()
        one.saved(9, Sheet(LATER))
        one.does(("write", B, "y"), 20)
        self.assertEqual(self.assert_refused("Crossed", one.rebase, 10, Sheet(PAIRS)).marks, [B])
        one.rebase(10, Sheet(LATER[:2]))
        self.assertEqual(words(one), ["one", "y"])

    def test_a_deed_behind_it_counts_on(self):
        one = window()
        one.does(("put", None, "x"), 20)
        one.saved(9, one.draft())
        self.assertEqual(one.does(("put", None, "y"), 22), [(5, 9)])
        self.assertEqual(one.unsaved(), [(5, 9)])


class OwnListsTest(RefusalCase):

    def test_lists_told(self):
        one = window()
        one.does(("join", A), 20)
        before = state(one)
        for ask in (one.lines, one.unsaved, one.draft().pairs):
            ask().clear()
            told = ask()
            told[0] = None
            told.append(None)
            self.assertEqual(state(one), before)
        one.does(("write", C, "x"), 21).clear()
        self.assertEqual(one.unsaved(), [A, B, C])
        one.undo().clear()
        one.again().append(A)
        self.assertEqual(one.unsaved(), [A, B, C])
        one.undo()
        self.assertEqual(state(one)[3:], before[3:])

    def test_sheets_told_ahead_stay(self):
        one = window()
        draft = one.draft()
        one.does(("join", A), 20)
        self.assertEqual(draft.pairs(), PAIRS)

    def test_two_on_one_sheet_share_nothing(self):
        sheet = Sheet(PAIRS)
        one, other = Window(5, 3, sheet, 7), Window(6, 3, sheet, 0)
        before = state(other)
        one.does(("join", A), 20)
        one.does(("put", None, "x"), 21)
        one.undo()
        self.assertEqual(state(other), before)
        self.assert_refused("NoDeed", other.undo)
        self.assert_refused("NoDeed", other.again)
        self.assertEqual(other.does(("put", A, "y"), 22), [(6, 1)])
        self.assertEqual(words(one), ["onetwo", "three"])
        one.saved(4, one.draft())
        self.assertEqual((other.base(), other.unsaved()), (3, [(6, 1)]))
        self.assertEqual(sheet.pairs(), PAIRS)


if __name__ == "__main__":
    unittest.main()
