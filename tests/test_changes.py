"""Promise [18], and [2] as it touches it: changes between sheets."""

import itertools
import random
import unittest

from helper import RefusalCase
from twotabs.changes import changes, followed, laid, turned
from twotabs.sheets import Sheet

P = ((0, 1, 1),)
Q = ((0, 1, 2),)

# What a mark may be in a sheet: none, in, the same at another beat, other words, another place, out, out at another.
STATES = (None, (1, P, "a"), (2, P, "a"), (1, P, "b"), (1, Q, "a"), (1, (), ""), (2, (), ""))
MARKS = ((1, 2), (1, 10), (2, 1))


def sheet_of(*versions):
    """A sheet with these versions of the marks, or without those that are None."""
    return Sheet([(mark, version) for mark, version in zip(MARKS, versions) if version is not None])


def some_sheet(chance):
    return sheet_of(*[chance.choice(STATES) for mark in MARKS])


def all_sheets():
    """Sheets with each state of each mark, though not each choice of the three together."""
    return [sheet_of(one, other, STATES[at % 7])
            for at, (one, other) in enumerate(itertools.product(STATES, repeat=2))]


class ChangesTest(RefusalCase):

    def test_of_one_mark(self):
        for was, now in itertools.product(STATES, repeat=2):
            with self.subTest((was, now)):
                told = changes(sheet_of(was), sheet_of(now))
                self.assertEqual(told, [] if was == now else [((1, 2), was, now)])
                self.assertIs(type(told), list)

    def test_to_itself(self):
        for sheet in all_sheets():
            self.assertEqual(changes(sheet, sheet), [])
            self.assertEqual(changes(sheet, Sheet(sheet.pairs())), [])

    def test_from_and_to_an_empty_sheet(self):
        pairs = [((1, 2), STATES[1]), ((1, 10), STATES[5]), ((2, 1), STATES[4])]
        self.assertEqual(changes(Sheet([]), Sheet(pairs)), [(mark, None, version) for mark, version in pairs])
        self.assertEqual(changes(Sheet(pairs), Sheet([])), [(mark, version, None) for mark, version in pairs])
        self.assertEqual(changes(Sheet([]), Sheet([])), [])

    def test_marks_rise(self):
        marks = [(0, 1), (1, 1), (1, 9), (1, 10), (2, 3), (10, 1)]
        for order in itertools.permutations(marks):
            one = Sheet([(mark, STATES[1]) for mark in order[:4]])
            other = Sheet([(mark, STATES[2]) for mark in order[2:]])
            self.assertEqual([mark for mark, was, now in changes(one, other)], marks)

    def test_what_is_the_same_is_left_out(self):
        one = sheet_of((1, P, "a"), (1, Q, "b"), (1, (), ""))
        other = sheet_of((1, P, "a"), (2, Q, "b"), (1, (), ""))
        self.assertEqual(changes(one, other), [((1, 10), (1, Q, "b"), (2, Q, "b"))])

    def test_the_other_way_about(self):
        for one, other in zip(all_sheets(), all_sheets()[::-1]):
            self.assertEqual(changes(other, one), [(mark, now, was) for mark, was, now in changes(one, other)])

    def test_sheets_stay_as_they_were(self):
        one, other = sheet_of(*STATES[1:4]), sheet_of(*STATES[3:6])
        before = (one.pairs(), other.pairs())
        told = changes(one, other)
        told.clear()
        self.assertEqual((one.pairs(), other.pairs()), before)
        self.assertEqual(len(changes(one, other)), 3)


class LaidTest(RefusalCase):

    def test_there_and_back(self):
        sheets = all_sheets()
        for one, other in itertools.product(sheets[::3], sheets[::4]):
            some = changes(one, other)
            there = laid(one, some)
            self.assertIsInstance(there, Sheet)
            self.assertEqual(there.pairs(), other.pairs())
            self.assertEqual(laid(other, turned(some)).pairs(), one.pairs())

    def test_no_changes(self):
        for sheet in all_sheets():
            self.assertEqual(laid(sheet, []).pairs(), sheet.pairs())

    def test_on_a_third_sheet_that_fits(self):
        some = changes(sheet_of(STATES[1], None), sheet_of(STATES[3], STATES[5]))
        third = sheet_of(STATES[1], None, STATES[4])
        self.assertEqual(laid(third, some).pairs(), sheet_of(STATES[3], STATES[5], STATES[4]).pairs())
        gone = changes(sheet_of(STATES[1]), Sheet([]))
        self.assertEqual(laid(third, gone).pairs(), [((2, 1), STATES[4])])

    def test_unfit(self):
        for was, now, there in itertools.product(STATES, repeat=3):
            if was == now:
                continue
            with self.subTest((was, now, there)):
                sheet = sheet_of(STATES[1], there, STATES[3])
                before = sheet.pairs()
                some = [((1, 10), was, now)]
                if was == there:
                    self.assertEqual(laid(sheet, some).pairs(), sheet_of(STATES[1], now, STATES[3]).pairs())
                else:
                    self.assert_refused("Unfit", laid, sheet, some)
                self.assertEqual(sheet.pairs(), before)

    def test_one_unfit_change_among_others(self):
        sheet = sheet_of(*STATES[1:4])
        fit = [(mark, version, (9, Q, "new")) for mark, version in sheet.pairs()]
        self.assertEqual([version for mark, version in laid(sheet, fit).pairs()], [(9, Q, "new")] * 3)
        for at in range(3):
            some = list(fit)
            some[at] = (some[at][0], (8, P, "a"), (9, Q, "new"))
            self.assert_refused("Unfit", laid, sheet, some)
        self.assert_refused("Unfit", laid, sheet, fit + [((3, 3), STATES[1], None)])

    def test_lists_and_sheets_stay_as_they_were(self):
        sheet = sheet_of(*STATES[1:4])
        some = changes(sheet, Sheet([]))
        before = list(some)
        new = laid(sheet, some)
        self.assertEqual(some, before)
        some.clear()
        self.assertEqual(new.pairs(), [])
        self.assertEqual(sheet.pairs(), sheet_of(*STATES[1:4]).pairs())


class TurnedTest(RefusalCase):

    def test_turned(self):
        some = [((1, 2), None, STATES[1]), ((1, 10), STATES[2], None), ((2, 1), STATES[3], STATES[4])]
        before = list(some)
        told = turned(some)
        self.assertEqual(told, [((1, 2), STATES[1], None), ((1, 10), None, STATES[2]), ((2, 1), STATES[4], STATES[3])])
        self.assertEqual(turned(told), some)
        told.clear()
        self.assertEqual(some, before)

    def test_none(self):
        self.assertEqual(turned([]), [])


class FollowedTest(RefusalCase):

    def test_marks_in_one_alone(self):
        one = [((1, 2), None, STATES[1]), ((2, 1), STATES[1], None)]
        other = [((0, 5), STATES[1], STATES[2]), ((1, 10), STATES[3], STATES[4]), ((3, 1), None, STATES[1])]
        both = [other[0], one[0], other[1], one[1], other[2]]
        self.assertEqual(followed(one, other), both)
        self.assertEqual(followed(other, one), both)
        self.assertEqual(followed(one, []), one)
        self.assertEqual(followed([], one), one)
        self.assertEqual(followed([], []), [])

    def test_a_mark_in_both(self):
        for first, mid, met, last in itertools.product(STATES, repeat=4):
            if first == mid or met == last:
                continue
            one, other = [((1, 2), first, mid)], [((1, 2), met, last)]
            if mid != met:
                self.assert_refused("Unfit", followed, one, other)
            else:
                self.assertEqual(followed(one, other), [] if first == last else [((1, 2), first, last)])

    def test_a_mark_that_comes_back_is_left_out(self):
        one = [((1, 2), STATES[1], STATES[3]), ((1, 10), None, STATES[5]), ((2, 1), STATES[4], None)]
        self.assertEqual(followed(one, turned(one)), [])
        self.assertEqual(followed(turned(one), one), [])
        self.assertEqual(followed(one, turned(one)[:2]), one[2:])

    def test_back_at_another_beat_is_not_left_out(self):
        one, other = [((1, 2), (1, P, "a"), (2, P, "b"))], [((1, 2), (2, P, "b"), (3, P, "a"))]
        self.assertEqual(followed(one, other), [((1, 2), (1, P, "a"), (3, P, "a"))])

    def test_one_mark_that_does_not_meet_among_others(self):
        one = [(mark, None, STATES[1]) for mark in MARKS]
        for at in range(3):
            other = [(mark, STATES[1], STATES[3]) for mark in MARKS]
            other[at] = (MARKS[at], STATES[2], STATES[3])
            self.assert_refused("Unfit", followed, one, other)
            other[at] = (MARKS[at], None, STATES[3])
            self.assert_refused("Unfit", followed, one, other)

    def test_does_both_at_once(self):
        for seed in range(300):
            chance = random.Random(seed)
            one, two, three = some_sheet(chance), some_sheet(chance), some_sheet(chance)
            some, more = changes(one, two), changes(two, three)
            both = followed(some, more)
            self.assertEqual(both, changes(one, three))
            self.assertEqual(laid(one, both).pairs(), laid(laid(one, some), more).pairs())
            other = one.given([((7, 7), STATES[1]), ((0, 1), STATES[5])])
            self.assertEqual(laid(other, both).pairs(), laid(laid(other, some), more).pairs())

    def test_lists_stay_as_they_were(self):
        one = [((1, 2), None, STATES[1])]
        other = [((1, 2), STATES[1], STATES[3]), ((2, 1), None, STATES[1])]
        told = followed(one, other)
        told.append(None)
        self.assertEqual(one, [((1, 2), None, STATES[1])])
        self.assertEqual(other, [((1, 2), STATES[1], STATES[3]), ((2, 1), None, STATES[1])])
        for same in (followed(one, []), followed([], one)):
            same.clear()
        self.assertEqual(one, [((1, 2), None, STATES[1])])


if __name__ == "__main__":
    unittest.main()
