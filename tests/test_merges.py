"""Promise [19], and [2] as it touches it: two sheets merged over their base."""

import itertools
import unittest

from helper import RefusalCase
from twotabs.merges import merged
from twotabs.sheets import Sheet

P = ((0, 1, 1),)
Q = ((0, 1, 2),)
M = (1, 2)
STATES = (None, (1, P, "a"), (2, P, "a"), (2, P, "b"), (3, Q, "a"), (3, (), ""), (4, (), ""), (5, P, "c"))


def sheet_of(version, mark=M):
    return Sheet([] if version is None else [(mark, version)])


def one_merged(base, last, mine):
    """What becomes of one mark: its version in the new sheet, and its clashes."""
    sheet, clashes = merged(sheet_of(base), sheet_of(last), sheet_of(mine))
    return sheet.version(M), clashes


class MergeTest(RefusalCase):

    def test_empty(self):
        told = merged(Sheet([]), Sheet([]), Sheet([]))
        self.assertIs(type(told), tuple)
        self.assertIsInstance(told[0], Sheet)
        self.assertEqual((told[0].pairs(), told[1]), ([], []))

    def test_only_one_changed(self):
        old, new = (1, P, "a"), (2, P, "b")
        self.assertEqual(one_merged(old, old, new), (new, []))
        self.assertEqual(one_merged(old, new, old), (new, []))
        self.assertEqual(one_merged(old, old, old), (old, []))

    def test_new_in_one(self):
        new = (2, P, "b")
        self.assertEqual(one_merged(None, new, None), (new, []))
        self.assertEqual(one_merged(None, None, new), (new, []))

    def test_both_changed(self):
        old, low, high = (1, P, "a"), (2, P, "b"), (3, P, "c")
        self.assertEqual(one_merged(old, low, high), (high, [(M, high, low)]))
        self.assertEqual(one_merged(old, high, low), (high, [(M, high, low)]))

    def test_both_changed_and_one_of_them_out(self):
        old, low, high = (1, P, "a"), (2, (), ""), (3, P, "c")
        self.assertEqual(one_merged(old, low, high), (high, [(M, high, low)]))
        old, low, high = (1, P, "a"), (2, P, "b"), (3, (), "")
        self.assertEqual(one_merged(old, low, high), (high, [(M, high, low)]))

    def test_both_moved(self):
        old, low, high = (1, P, "a"), (2, Q, "a"), (3, ((0, 1, 3),), "a")
        self.assertEqual(one_merged(old, high, low), (high, [(M, high, low)]))

    def test_alike(self):
        old, low, high = (1, P, "a"), (2, Q, "b"), (3, Q, "b")
        self.assertEqual(one_merged(old, low, high), (high, []))
        self.assertEqual(one_merged(old, high, low), (high, []))
        self.assertEqual(one_merged(old, high, high), (high, []))
        self.assertEqual(one_merged(None, low, high), (high, []))
        self.assertEqual(one_merged(old, (2, (), ""), (3, (), "")), ((3, (), ""), []))

    def test_alike_to_the_base_at_another_beat_is_changed(self):
        old, low, high = (1, P, "a"), (2, P, "b"), (3, P, "a")
        self.assertEqual(one_merged(old, low, high), (high, [(M, high, low)]))
        self.assertEqual(one_merged(old, high, low), (high, [(M, high, low)]))

    def test_the_base_has_no_version(self):
        low, high = (2, P, "b"), (3, P, "c")
        self.assertEqual(one_merged(None, low, high), (high, [(M, high, low)]))
        self.assertEqual(one_merged(None, high, low), (high, [(M, high, low)]))

    def test_the_earlier_one_may_be_the_base_s(self):
        old, earlier = (5, P, "c"), (2, P, "b")
        self.assertEqual(one_merged(old, earlier, old), (old, []))
        self.assertEqual(one_merged(old, old, earlier), (old, []))

    def test_of_one_beat_the_greater_as_tuples_are(self):
        low, high = (3, P, "b"), (3, Q, "a")
        self.assertEqual(one_merged((1, P, "a"), high, low), (high, [(M, high, low)]))
        low, high = (3, P, "a"), (3, P, "b")
        self.assertEqual(one_merged((1, P, "a"), high, low), (high, [(M, high, low)]))

    def test_gone_from_one(self):
        old, new = (1, P, "a"), (2, P, "b")
        self.assertEqual(one_merged(old, None, new), (new, []))
        self.assertEqual(one_merged(old, new, None), (new, []))
        self.assertEqual(one_merged(old, None, old), (old, []))
        self.assertEqual(one_merged(old, None, None), (None, []))

    def test_every_choice_of_three(self):
        for base, last, mine in itertools.product(STATES, repeat=3):
            with self.subTest((base, last, mine)):
                there = [version for version in (last, mine) if version is not None]
                stands = max(there) if there else None
                clashes = []
                if len(there) == 2 and base not in there and last[1:] != mine[1:]:
                    clashes = [(M, stands, min(there))]
                self.assertEqual(one_merged(base, last, mine), (stands, clashes))


class ManyMarksTest(RefusalCase):

    base = [((1, 1), (1, P, "a")), ((1, 9), (2, P, "b")), ((1, 10), (3, P, "c")), ((3, 1), (4, P, "d")),
            ((5, 5), (4, P, "not in the others"))]
    last = [((10, 1), (20, P, "x")), ((3, 1), (12, P, "d last")), ((1, 10), (13, P, "c last")), ((1, 9), (2, P, "b")),
            ((1, 1), (11, P, "a last")), ((2, 2), (14, Q, "new last"))]
    mine = [((1, 10), (15, P, "c mine")), ((1, 1), (10, P, "a mine")), ((10, 1), (21, P, "y")), ((3, 1), (16, (), "")),
            ((1, 9), (17, P, "b mine")), ((0, 7), (18, Q, "new mine"))]

    def test_marks_rise(self):
        for turn in range(6):
            sheet, clashes = merged(Sheet(self.base), Sheet(self.last[turn:] + self.last[:turn]),
                                    Sheet(self.mine[::-1]))
            self.assertEqual(sheet.pairs(), [
                ((0, 7), (18, Q, "new mine")), ((1, 1), (11, P, "a last")), ((1, 9), (17, P, "b mine")),
                ((1, 10), (15, P, "c mine")), ((2, 2), (14, Q, "new last")), ((3, 1), (16, (), "")),
                ((10, 1), (21, P, "y"))])
            self.assertEqual(clashes, [
                ((1, 1), (11, P, "a last"), (10, P, "a mine")), ((1, 10), (15, P, "c mine"), (13, P, "c last")),
                ((3, 1), (16, (), ""), (12, P, "d last")), ((10, 1), (21, P, "y"), (20, P, "x"))])
            self.assertIs(type(clashes), list)

    def test_sheets_stay_as_they_were(self):
        sheets = [Sheet(pairs) for pairs in (self.base, self.last, self.mine)]
        before = [sheet.pairs() for sheet in sheets]
        new, clashes = merged(*sheets)
        kept = list(clashes)
        clashes.clear()
        new.pairs().clear()
        self.assertEqual([sheet.pairs() for sheet in sheets], before)
        self.assertEqual(merged(*sheets)[1], kept)

    def test_merged_with_itself(self):
        for pairs in (self.base, self.last, self.mine):
            sheet, clashes = merged(Sheet(self.base), Sheet(pairs), Sheet(pairs))
            self.assertEqual((sheet.pairs(), clashes), (sorted(pairs), []))


if __name__ == "__main__":
    unittest.main()
