"""Promise [17], and [2] as it touches it: logs of entries that stand or are undone."""

import itertools
import random
import unittest

from helper import RefusalCase
from twotabs.logs import Log

ONE = (1, ((0, 1, 1),), "one")
TWO = (2, ((0, 1, 1),), "two")
OUT = (3, (), "")

FIRST = [((1, 1), None, ONE)]
SECOND = [((1, 1), ONE, TWO), ((2, 10), None, TWO)]
THIRD = [((1, 1), TWO, OUT), ((2, 2), OUT, ONE)]
ENTRIES = (FIRST, SECOND, THIRD)


def log_of(*entries):
    log = Log()
    for entry in entries:
        log.add(entry)
    return log


class LogCase(RefusalCase):

    def assert_log(self, log, many, touched):
        self.assertEqual(log.many(), many)
        self.assertIs(type(log.many()), tuple)
        self.assertEqual(log.touched(), touched)
        self.assertIs(type(log.touched()), list)


class TurnsTest(LogCase):

    def test_new(self):
        self.assert_log(Log(), (0, 0), [])

    def test_added(self):
        log = Log()
        self.assertIsNone(log.add(FIRST))
        self.assert_log(log, (1, 0), [(1, 1)])
        log.add(SECOND)
        self.assert_log(log, (2, 0), [(1, 1), (2, 10)])
        log.add(THIRD)
        self.assert_log(log, (3, 0), [(1, 1), (2, 2), (2, 10)])

    def test_undone_one_by_one(self):
        log = log_of(*ENTRIES)
        self.assertEqual(log.undo(), THIRD)
        self.assert_log(log, (2, 1), [(1, 1), (2, 10)])
        self.assertEqual(log.undo(), SECOND)
        self.assert_log(log, (1, 2), [(1, 1)])
        self.assertEqual(log.undo(), FIRST)
        self.assert_log(log, (0, 3), [])

    def test_done_again_one_by_one(self):
        log = log_of(*ENTRIES)
        for entry in ENTRIES:
            log.undo()
        self.assertEqual(log.again(), FIRST)
        self.assert_log(log, (1, 2), [(1, 1)])
        self.assertEqual(log.again(), SECOND)
        self.assert_log(log, (2, 1), [(1, 1), (2, 10)])
        self.assertEqual(log.again(), THIRD)
        self.assert_log(log, (3, 0), [(1, 1), (2, 2), (2, 10)])

    def test_undone_and_done_again_in_turns(self):
        log = log_of(FIRST, SECOND)
        for turn in range(3):
            self.assertEqual((log.undo(), log.again()), (SECOND, SECOND))
            self.assertEqual((log.undo(), log.undo(), log.again(), log.again()), (SECOND, FIRST, FIRST, SECOND))
        self.assert_log(log, (2, 0), [(1, 1), (2, 10)])

    def test_an_entry_more_forgets_the_undone_ones(self):
        log = log_of(FIRST, SECOND)
        log.undo()
        log.add(THIRD)
        self.assert_log(log, (2, 0), [(1, 1), (2, 2)])
        self.assert_refused("NoDeed", log.again)
        self.assertEqual((log.undo(), log.undo()), (THIRD, FIRST))
        self.assertEqual((log.again(), log.again()), (FIRST, THIRD))

    def test_an_entry_without_marks(self):
        log = log_of([], FIRST, [])
        self.assert_log(log, (3, 0), [(1, 1)])
        self.assertEqual((log.undo(), log.undo(), log.undo()), ([], FIRST, []))
        self.assert_log(log, (0, 3), [])

    def test_the_same_entry_twice(self):
        log = log_of(FIRST, FIRST)
        self.assert_log(log, (2, 0), [(1, 1)])
        log.undo()
        self.assert_log(log, (1, 1), [(1, 1)])

    def test_touched_marks_rise(self):
        marks = [(0, 2), (1, 1), (1, 9), (1, 10), (2, 1), (10, 1)]
        for order in itertools.permutations(marks):
            log = log_of([(mark, None, ONE) for mark in order[:3]], [(mark, ONE, TWO) for mark in order[2:]])
            self.assertEqual(log.touched(), marks)

    def test_any_turns(self):
        for seed in range(40):
            chance = random.Random(seed)
            log, standing, undone = Log(), [], []
            for turn in range(60):
                self.turn(chance, log, standing, undone)
                self.assert_log(log, (len(standing), len(undone)),
                                sorted({each[0] for entry in standing for each in entry}))

    def turn(self, chance, log, standing, undone):
        """One deed at the log and at two plain lists."""
        what = chance.randrange(20)
        if what == 0:
            log.empty()
            standing.clear()
            undone.clear()
        elif what == 1:
            log.forget()
            undone.clear()
        elif what < 8:
            marks = chance.sample([(window, count) for window in (1, 2) for count in (1, 2, 10)], chance.randrange(4))
            entry = [(mark, None, ONE) for mark in sorted(marks)]
            log.add(entry)
            standing.append(entry)
            undone.clear()
        else:
            ask, here, there = (log.undo, standing, undone) if what < 14 else (log.again, undone, standing)
            if here:
                there.append(here.pop())
                self.assertEqual(ask(), there[-1])
            else:
                self.assert_refused("NoDeed", ask)


class NoDeedTest(LogCase):

    def test_nothing_to_undo(self):
        log = Log()
        for turn in range(2):
            self.assert_refused("NoDeed", log.undo)
            self.assert_log(log, (0, 0), [])
        log.add(FIRST)
        log.undo()
        self.assert_refused("NoDeed", log.undo)
        self.assert_log(log, (0, 1), [])
        self.assertEqual(log.again(), FIRST)

    def test_nothing_to_do_again(self):
        log = Log()
        self.assert_refused("NoDeed", log.again)
        log.add(FIRST)
        self.assert_refused("NoDeed", log.again)
        self.assert_log(log, (1, 0), [(1, 1)])
        self.assertEqual(log.undo(), FIRST)
        self.assertEqual(log.again(), FIRST)
        self.assert_refused("NoDeed", log.again)
        self.assertEqual(log.undo(), FIRST)


class EmptiedTest(LogCase):

    def test_emptied(self):
        log = log_of(*ENTRIES)
        log.undo()
        self.assertIsNone(log.empty())
        self.assert_log(log, (0, 0), [])
        self.assert_refused("NoDeed", log.undo)
        self.assert_refused("NoDeed", log.again)
        log.add(SECOND)
        self.assert_log(log, (1, 0), [(1, 1), (2, 10)])

    def test_undone_ones_forgotten(self):
        log = log_of(*ENTRIES)
        log.undo()
        log.undo()
        self.assertIsNone(log.forget())
        self.assert_log(log, (1, 0), [(1, 1)])
        self.assert_refused("NoDeed", log.again)
        self.assertEqual(log.undo(), FIRST)

    def test_nothing_to_empty_or_forget(self):
        log = Log()
        log.empty()
        log.forget()
        self.assert_log(log, (0, 0), [])
        log.add(FIRST)
        log.forget()
        self.assert_log(log, (1, 0), [(1, 1)])


class OwnListsTest(LogCase):

    def test_entry_handed_in(self):
        entry = list(SECOND)
        log = log_of(entry)
        self.assertEqual(entry, SECOND)
        entry.append(((9, 9), None, ONE))
        entry[0] = ((8, 8), None, ONE)
        self.assert_log(log, (1, 0), [(1, 1), (2, 10)])
        entry.clear()
        self.assertEqual(log.undo(), SECOND)
        self.assertEqual(log.again(), SECOND)

    def test_entries_told(self):
        log = log_of(SECOND)
        for turn in range(2):
            log.undo().clear()
            log.again().append(((9, 9), None, ONE))
            self.assert_log(log, (1, 0), [(1, 1), (2, 10)])
        told = log.undo()
        self.assertEqual(told, SECOND)
        self.assertEqual(log.again(), SECOND)
        told[0] = ((7, 7), None, ONE)
        self.assertEqual(log.undo(), SECOND)

    def test_told_entry_is_not_the_one_handed_in(self):
        entry = list(SECOND)
        log = log_of(entry)
        log.undo().clear()
        self.assertEqual(entry, SECOND)

    def test_marks_told(self):
        log = log_of(SECOND)
        told = log.touched()
        told.append((9, 9))
        self.assertEqual(log.touched(), [(1, 1), (2, 10)])
        log.touched().clear()
        self.assertEqual(log.touched(), [(1, 1), (2, 10)])
        log.add(THIRD)
        self.assertEqual(told, [(1, 1), (2, 10), (9, 9)])

    def test_two_logs_share_nothing(self):
        entry = list(FIRST)
        one, other = Log(), Log()
        one.add(entry)
        self.assert_log(other, (0, 0), [])
        other.add(entry)
        one.undo()
        self.assert_log(other, (1, 0), [(1, 1)])
        self.assert_refused("NoDeed", other.again)
        one.empty()
        self.assertEqual(other.undo(), FIRST)


if __name__ == "__main__":
    unittest.main()
