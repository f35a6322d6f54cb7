"""Promises [13] and [14], and [2] as it touches them: sheets, their lines and gaps, and sheets given anew."""

import itertools
import unittest

from helper import RefusalCase
from twotabs.sheets import Sheet

P = ((-1, 1, 5),)
Q = ((0, 1, 1),)
Q_IN = ((0, 1, 1), (0, 2, 1))
R = ((0, 1, 2),)
S = ((3, 0, 1),)

# By place: 2.1 (P), 1.10 (Q), 1.9 (Q_IN), 0.3 and 1.2 (both R), 3.1 (S); 1.1 and 2.2 are out.
PAIRS = [
    ((0, 3), (7, R, "r zero")), ((1, 1), (4, (), "")), ((1, 2), (2, R, "r one")), ((1, 9), (9, Q_IN, "q in")),
    ((1, 10), (3, Q, "q")), ((2, 1), (1, P, "p")), ((2, 2), (8, (), "")), ((3, 1), (5, S, "")),
]
LINES = [((2, 1), "p"), ((1, 10), "q"), ((1, 9), "q in"), ((0, 3), "r zero"), ((1, 2), "r one"), ((3, 1), "")]
STRANGE = [(0, 1), (1, 3), (9, 9), (2, 10)]


class MadeTest(RefusalCase):

    def test_without_pieces(self):
        sheet = Sheet([])
        self.assertEqual((sheet.pairs(), sheet.lines(), sheet.text()), ([], [], ""))
        self.assertIsNone(sheet.version((1, 1)))
        self.assertIs(sheet.has((1, 1)), False)

    def test_pairs_in_any_order(self):
        for pairs in (PAIRS, PAIRS[::-1], PAIRS[4:] + PAIRS[:4], PAIRS[::2] + PAIRS[1::2]):
            sheet = Sheet(pairs)
            self.assertEqual(sheet.pairs(), PAIRS)
            self.assertEqual(sheet.lines(), LINES)

    def test_each_order_of_a_few(self):
        few = PAIRS[:5]
        for pairs in itertools.permutations(few):
            sheet = Sheet(list(pairs))
            self.assertEqual(sheet.pairs(), few)
            self.assertEqual(sheet.lines(), [((1, 10), "q"), ((1, 9), "q in"), ((0, 3), "r zero"), ((1, 2), "r one")])

    def test_a_mark_twice(self):
        for mark, version in PAIRS:
            for other in (version, (20, Q, "other"), (20, (), "")):
                self.assert_refused("NoSheet", Sheet, PAIRS + [(mark, other)])
                self.assert_refused("NoSheet", Sheet, [(mark, other)] + PAIRS)
        self.assert_refused("NoSheet", Sheet, [((1, 1), (1, Q, "a"))] * 2)

    def test_a_version_or_a_place_twice_is_no_trouble(self):
        pairs = [((1, 1), (1, Q, "a")), ((1, 2), (1, Q, "a"))]
        self.assertEqual(Sheet(pairs).lines(), [((1, 1), "a"), ((1, 2), "a")])

    def test_kinds(self):
        sheet = Sheet(PAIRS)
        self.assertIs(type(sheet.pairs()), list)
        self.assertIs(type(sheet.lines()), list)
        self.assertEqual({type(each) for each in sheet.pairs() + sheet.lines()}, {tuple})


class ToldTest(RefusalCase):

    def test_lines_by_place(self):
        places = [((-2, 1, 1),), ((-1, 9, 9),), ((0, 1, 1),), ((0, 1, 1), (-1, 1, 1)), ((0, 1, 1), (5, 1, 1)),
                  ((0, 1, 2),), ((0, 1, 10),), ((0, 2, 1),), ((1, 1, 1),)]
        for turn in range(len(places)):
            order = places[turn:] + places[:turn]
            pairs = [((1, at), (1, place, str(places.index(place)))) for at, place in enumerate(order, 1)]
            self.assertEqual([words for mark, words in Sheet(pairs).lines()], list("012345678"))

    def test_lines_of_one_place_by_mark(self):
        marks = [(0, 7), (1, 2), (1, 10), (2, 1), (10, 1)]
        for order in itertools.permutations(marks):
            pairs = [(mark, (at, Q, str(9 - at))) for at, mark in enumerate(order, 1)]
            self.assertEqual([mark for mark, words in Sheet(pairs).lines()], marks)

    def test_text(self):
        self.assertEqual(Sheet(PAIRS).text(), "p\nq\nq in\nr zero\nr one\n\n")
        self.assertEqual(Sheet([((1, 1), (1, Q, ""))]).text(), "\n")
        self.assertEqual(Sheet([((1, 1), (1, (), ""))]).text(), "")

    def test_version(self):
        sheet = Sheet(PAIRS)
        for mark, version in PAIRS:
            self.assertEqual(sheet.version(mark), version)
        for mark in STRANGE:
            self.assertIsNone(sheet.version(mark))

    def test_has(self):
        sheet = Sheet(PAIRS)
        for mark, version in PAIRS:
            self.assertIs(sheet.has(mark), mark not in ((1, 1), (2, 2)))
        for mark in STRANGE:
            self.assertIs(sheet.has(mark), False)

    def test_only_out_pieces(self):
        pairs = [((1, 1), (1, (), "")), ((2, 1), (2, (), ""))]
        sheet = Sheet(pairs)
        self.assertEqual((sheet.pairs(), sheet.lines(), sheet.gap(None, [])), (pairs, [], ((), None)))


class GapTest(RefusalCase):

    def test_nothing_aside(self):
        sheet = Sheet(PAIRS)
        for behind, gap in ((None, ((), P)), ((2, 1), (P, Q)), ((1, 10), (Q, Q_IN)), ((1, 9), (Q_IN, R)),
                            ((0, 3), (R, S)), ((1, 2), (R, S)), ((3, 1), (S, None))):
            with self.subTest(behind):
                self.assertEqual(sheet.gap(behind, []), gap)
                self.assertIs(type(sheet.gap(behind, [])), tuple)

    def test_out_and_strange_marks_aside_change_nothing(self):
        sheet = Sheet(PAIRS)
        for behind in [None] + [mark for mark, words in LINES]:
            for aside in ([(1, 1)], [(2, 2), (1, 1)], STRANGE, STRANGE + [(1, 1)], [(1, 1), (1, 1)]):
                self.assertEqual(sheet.gap(behind, aside), sheet.gap(behind, []))

    def test_marks_that_are_in_aside(self):
        sheet = Sheet(PAIRS)
        for behind, aside, gap in (
            (None, [(2, 1)], ((), Q)), (None, [(1, 10), (2, 1)], ((), Q_IN)), (None, [(1, 10)], ((), P)),
            (None, [mark for mark, words in LINES], ((), None)), ((2, 1), [(1, 10), (1, 9)], (P, R)),
            ((2, 1), [(1, 10), (1, 9), (0, 3)], (P, R)), ((2, 1), [(1, 10), (1, 9), (0, 3), (1, 2)], (P, S)),
            ((1, 9), [(3, 1)], (Q_IN, R)), ((1, 2), [(3, 1)], (R, None)), ((3, 1), [(2, 1)], (S, None)),
            ((0, 3), [(1, 2)], (R, S)), ((1, 10), [(1, 9), (9, 9), (1, 1), (1, 9)], (Q, R)),
        ):
            with self.subTest((behind, aside)):
                self.assertEqual(sheet.gap(behind, aside), gap)

    def test_the_piece_itself_aside(self):
        sheet = Sheet(PAIRS)
        for mark, words in LINES:
            self.assertEqual(sheet.gap(mark, [mark]), sheet.gap(mark, []))

    def test_every_choice_of_marks_aside(self):
        sheet = Sheet(PAIRS)
        places = {mark: version[1] for mark, version in PAIRS if version[1] != ()}
        for many in range(len(places) + 1):
            for aside in itertools.combinations(places, many):
                for behind in [None] + list(places):
                    low = () if behind is None else places[behind]
                    behinds = [place for mark, place in places.items() if mark not in aside and place > low]
                    high = sorted(behinds)[0] if behinds else None
                    self.assertEqual(sheet.gap(behind, list(aside)), (low, high))

    def test_no_piece(self):
        sheet = Sheet(PAIRS)
        for behind in [(1, 1), (2, 2)] + STRANGE:
            for aside in ([], [behind], [(1, 10)]):
                with self.subTest((behind, aside)):
                    self.assert_refused("NoPiece", sheet.gap, behind, aside)
        self.assert_refused("NoPiece", Sheet([]).gap, (1, 1), [])

    def test_no_pieces_at_the_head(self):
        self.assertEqual(Sheet([]).gap(None, []), ((), None))
        self.assertEqual(Sheet([]).gap(None, STRANGE), ((), None))


class GivenTest(RefusalCase):

    def setUp(self):
        self.sheet = Sheet(PAIRS)

    def tearDown(self):
        self.assertEqual((self.sheet.pairs(), self.sheet.lines()), (PAIRS, LINES))

    def given_pairs(self, pairs):
        """What the sheet has when it is given these pairs, reckoned by itself."""
        new = dict(PAIRS) | dict(pairs)
        return sorted((mark, version) for mark, version in new.items() if version is not None)

    def test_given(self):
        gifts = ([], [((1, 10), (20, S, "new"))], [((1, 10), (20, (), ""))], [((1, 1), (20, Q, "back"))],
                 [((9, 9), (20, P, "strange"))], [((9, 9), (20, (), ""))], [((0, 1), (20, P, "first"))],
                 [((3, 1), (20, Q, "c")), ((0, 3), (20, (), "")), ((2, 7), (20, R, "d"))])
        for gift in gifts:
            with self.subTest(gift):
                new = self.sheet.given(gift)
                self.assertIsInstance(new, Sheet)
                self.assertEqual(new.pairs(), self.given_pairs(gift))

    def test_given_the_same_versions(self):
        for gift in (PAIRS, PAIRS[::-1], PAIRS[3:5]):
            self.assertEqual(self.sheet.given(gift).pairs(), PAIRS)

    def test_given_none(self):
        for many in (1, 2, 8):
            for marks in itertools.combinations([mark for mark, version in PAIRS], many):
                new = self.sheet.given([(mark, None) for mark in marks])
                self.assertEqual(new.pairs(), [pair for pair in PAIRS if pair[0] not in marks])
                for mark in marks:
                    self.assertIsNone(new.version(mark))
                    self.assertIs(new.has(mark), False)

    def test_given_none_for_marks_that_are_not_there(self):
        self.assertEqual(self.sheet.given([(mark, None) for mark in STRANGE]).pairs(), PAIRS)
        self.assertEqual(Sheet([]).given([((1, 1), None)]).pairs(), [])

    def test_given_versions_and_none(self):
        gift = [((3, 1), None), ((1, 10), (20, S, "new")), ((9, 9), None), ((4, 4), (20, P, "p too")), ((1, 1), None)]
        new = self.sheet.given(gift)
        self.assertEqual(new.pairs(), self.given_pairs(gift))
        self.assertEqual([words for mark, words in new.lines()], ["p", "p too", "q in", "r zero", "r one", "new"])

    def test_given_again_and_again(self):
        one = self.sheet.given([((9, 9), (20, P, "x"))])
        two = one.given([((9, 9), None)])
        three = one.given([((9, 9), (21, S, "y"))])
        self.assertEqual(one.version((9, 9)), (20, P, "x"))
        self.assertEqual(two.pairs(), PAIRS)
        self.assertEqual(three.version((9, 9)), (21, S, "y"))


class OwnListsTest(unittest.TestCase):
    """[2]: lists handed in are copied and not changed, lists told are the asker's own."""

    def assert_as_it_was(self, sheet):
        self.assertEqual((sheet.pairs(), sheet.lines()), (PAIRS, LINES))
        self.assertEqual(sheet.gap(None, []), ((), P))

    def test_pairs_handed_in(self):
        pairs = PAIRS[::-1]
        sheet = Sheet(pairs)
        self.assertEqual(pairs, PAIRS[::-1])
        pairs[0] = ((7, 7), (1, Q, "no"))
        pairs.append(((8, 8), (1, Q, "no")))
        self.assert_as_it_was(sheet)
        pairs.clear()
        self.assert_as_it_was(sheet)

    def test_lists_told(self):
        sheet = Sheet(PAIRS)
        for told in (sheet.pairs, sheet.lines):
            told().clear()
            self.assert_as_it_was(sheet)
            one = told()
            one.append(((8, 8), (1, Q, "no")))
            one[0] = None
            self.assert_as_it_was(sheet)

    def test_pairs_given(self):
        gift = [((9, 9), (20, P, "x")), ((1, 10), None)]
        sheet = Sheet(PAIRS)
        new = sheet.given(gift)
        self.assertEqual(gift, [((9, 9), (20, P, "x")), ((1, 10), None)])
        before = new.pairs()
        gift.clear()
        gift.append(((1, 2), None))
        self.assertEqual(new.pairs(), before)
        new.pairs().clear()
        self.assertEqual(new.pairs(), before)
        self.assert_as_it_was(sheet)

    def test_marks_aside(self):
        aside = [(2, 1), (9, 9), (2, 1)]
        sheet = Sheet(PAIRS)
        sheet.gap(None, aside)
        self.assertEqual(aside, [(2, 1), (9, 9), (2, 1)])

    def test_two_sheets_share_nothing(self):
        pairs = list(PAIRS)
        one, other = Sheet(pairs), Sheet(pairs)
        one.pairs().clear()
        one.given([((2, 1), None)])
        self.assert_as_it_was(other)


if __name__ == "__main__":
    unittest.main()
