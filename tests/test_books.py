"""Promises [20] and [21], and [2] as it touches them: the book of saves, and going back in it."""

import random
import unittest

from helper import RefusalCase
from twotabs.books import Book
from twotabs.sheets import Sheet

P = ((0, 1, 1),)
Q = ((0, 1, 2),)
R = ((1, 1, 1),)
A, B, C, D = (1, 1), (1, 2), (1, 10), (2, 1)

SHEETS = (
    [],
    [(A, (1, Q, "a")), (B, (2, P, "b"))],
    [(A, (1, Q, "a")), (B, (5, P, "bb")), (C, (6, R, "c"))],
    [(A, (8, (), "")), (B, (5, P, "bb")), (C, (6, R, "c")), (D, (7, Q, "d"))],
    [(A, (8, (), "")), (B, (11, P, "b")), (C, (12, (), "")), (D, (7, Q, "d"))],
    [(A, (14, Q, "a")), (B, (11, P, "b")), (C, (12, (), "")), (D, (7, Q, "d"))],
)
TOLD = ((0, 0, 0), (1, 3, 2), (2, 7, 1), (1, 9, 4), (0, 13, 0), (2, 15, 3))
NO_SAVES = (-1, -2, -6, -7, 6, 7, 100, 10 ** 40, -10 ** 40)


def whole_book():
    book = Book()
    for pairs, (window, beat, count) in zip(SHEETS[1:], TOLD[1:]):
        book.add(Sheet(pairs), window, beat, count)
    return book


class NewTest(RefusalCase):

    def test_save_0(self):
        book = Book()
        self.assertEqual(book.newest(), 0)
        self.assertEqual(book.sheet(0).pairs(), [])
        self.assertEqual(book.lines(0), [])
        self.assertEqual(book.told(0), (0, 0, 0))
        self.assertEqual(book.since(0), [])
        self.assertEqual(book.trail(A), [])
        self.assertEqual(book.back_pairs(0, 1), [])

    def test_last_of(self):
        self.assertEqual(Book().last_of(0), 0)
        self.assertIsNone(Book().last_of(1))

    def test_no_save(self):
        book = Book()
        for save in (1, 2, -1):
            for ask in (book.sheet, book.lines, book.told, book.since):
                self.assert_refused("NoSave", ask, save)
            self.assert_refused("NoSave", book.back_pairs, save, 1)


class SavesTest(RefusalCase):

    def setUp(self):
        self.book = whole_book()

    def test_add_tells_the_number(self):
        book = Book()
        for number in range(1, 5):
            self.assertEqual(book.add(Sheet(SHEETS[number]), 1, number, 0), number)
            self.assertEqual(book.newest(), number)

    def test_the_same_sheet_again_is_a_save_more(self):
        book = Book()
        sheet = Sheet(SHEETS[1])
        self.assertEqual((book.add(sheet, 1, 1, 1), book.add(sheet, 1, 1, 1)), (1, 2))

    def test_sheets(self):
        for save, pairs in enumerate(SHEETS):
            self.assertIsInstance(self.book.sheet(save), Sheet)
            self.assertEqual(self.book.sheet(save).pairs(), pairs)

    def test_lines(self):
        self.assertEqual([self.book.lines(save) for save in range(6)], [
            [], [(B, "b"), (A, "a")], [(B, "bb"), (A, "a"), (C, "c")], [(B, "bb"), (D, "d"), (C, "c")],
            [(B, "b"), (D, "d")], [(B, "b"), (A, "a"), (D, "d")]])

    def test_told(self):
        self.assertEqual(tuple([self.book.told(save) for save in range(6)]), TOLD)
        self.assertIs(type(self.book.told(3)), tuple)

    def test_since(self):
        self.assertEqual([self.book.since(save) for save in range(6)], [
            [], [(B, 1), (A, 1)], [(B, 2), (A, 1), (C, 2)], [(B, 2), (D, 3), (C, 2)], [(B, 4), (D, 3)],
            [(B, 4), (A, 5), (D, 3)]])

    def test_since_of_a_version_that_comes_back(self):
        book = Book()
        for pairs in ([(A, (1, P, "a"))], [(A, (2, P, "b"))], [(A, (1, P, "a"))], [(A, (1, P, "a"))], [],
                      [(A, (1, P, "a"))], [(A, (3, P, "a"))]):
            book.add(Sheet(pairs), 1, 1, 1)
        self.assertEqual([book.since(save) for save in range(8)],
                         [[], [(A, 1)], [(A, 2)], [(A, 3)], [(A, 3)], [], [(A, 6)], [(A, 7)]])
        self.assertEqual(book.trail(A), [(1, (1, P, "a")), (2, (2, P, "b")), (3, (1, P, "a")), (6, (1, P, "a")),
                                         (7, (3, P, "a"))])

    def test_trail(self):
        self.assertEqual(self.book.trail(A), [(1, (1, Q, "a")), (3, (8, (), "")), (5, (14, Q, "a"))])
        self.assertEqual(self.book.trail(B), [(1, (2, P, "b")), (2, (5, P, "bb")), (4, (11, P, "b"))])
        self.assertEqual(self.book.trail(C), [(2, (6, R, "c")), (4, (12, (), ""))])
        self.assertEqual(self.book.trail(D), [(3, (7, Q, "d"))])
        self.assertEqual(self.book.trail((9, 9)), [])

    def test_last_of(self):
        self.assertEqual([self.book.last_of(window) for window in (0, 1, 2, 3, -1)], [4, 3, 5, None, None])

    def test_a_save_stays_as_it_is(self):
        before = [(self.book.lines(save), self.book.told(save), self.book.since(save)) for save in range(6)]
        self.book.add(Sheet([]), 3, 20, 1)
        self.book.add(Sheet(SHEETS[2]), 1, 21, 9)
        self.assertEqual(
            [(self.book.lines(save), self.book.told(save), self.book.since(save)) for save in range(6)], before)
        self.assertEqual((self.book.last_of(3), self.book.last_of(1), self.book.newest()), (6, 7, 7))

    def test_no_save(self):
        for save in NO_SAVES:
            for ask in (self.book.sheet, self.book.lines, self.book.told, self.book.since):
                self.assert_refused("NoSave", ask, save)
        self.assertEqual(self.book.newest(), 5)

    def test_two_books_share_nothing(self):
        other = Book()
        self.assertEqual(other.newest(), 0)
        other.add(Sheet(SHEETS[1]), 1, 1, 1)
        self.assertEqual((self.book.newest(), other.newest()), (5, 1))


class BackTest(RefusalCase):

    def setUp(self):
        self.book = whole_book()

    def test_to_each_save(self):
        self.assertEqual(self.book.back_pairs(0, 30), [(A, (30, (), "")), (B, (30, (), "")), (D, (30, (), ""))])
        self.assertEqual(self.book.back_pairs(1, 30), [(D, (30, (), ""))])
        self.assertEqual(self.book.back_pairs(2, 30), [(B, (30, P, "bb")), (C, (30, R, "c")), (D, (30, (), ""))])
        self.assertEqual(self.book.back_pairs(3, 30), [(A, (30, (), "")), (B, (30, P, "bb")), (C, (30, R, "c"))])
        self.assertEqual(self.book.back_pairs(4, 30), [(A, (30, (), ""))])

    def test_to_the_newest_itself(self):
        self.assertEqual(self.book.back_pairs(5, 30), [])

    def test_kinds(self):
        told = self.book.back_pairs(2, 30)
        self.assertIs(type(told), list)
        self.assertEqual({type(pair) for pair in told}, {tuple})

    def test_alike_at_another_beat_has_no_pair(self):
        book = Book()
        book.add(Sheet([(A, (1, P, "a")), (B, (2, (), ""))]), 1, 3, 1)
        book.add(Sheet([(A, (4, P, "a")), (B, (5, (), ""))]), 1, 6, 2)
        self.assertEqual(book.back_pairs(1, 30), [])

    def test_pieces_that_the_save_has_not(self):
        book = Book()
        book.add(Sheet([]), 1, 1, 1)
        book.add(Sheet([(A, (1, P, "a")), (B, (2, (), "")), (C, (3, Q, ""))]), 1, 4, 1)
        self.assertEqual(book.back_pairs(1, 30), [(A, (30, (), "")), (C, (30, (), ""))])

    def test_pieces_that_the_newest_has_not(self):
        book = Book()
        book.add(Sheet([(A, (1, P, "a")), (B, (2, Q, "b"))]), 1, 3, 1)
        book.add(Sheet([(B, (4, Q, "bb"))]), 1, 5, 2)
        self.assertEqual(book.back_pairs(1, 30), [(B, (30, Q, "b"))])

    def test_out_there_and_in_here_and_the_other_way_about(self):
        book = Book()
        book.add(Sheet([(A, (1, (), "")), (B, (2, Q, "b"))]), 1, 3, 1)
        book.add(Sheet([(A, (4, P, "a")), (B, (5, (), ""))]), 1, 6, 2)
        self.assertEqual(book.back_pairs(1, 30), [(A, (30, (), "")), (B, (30, Q, "b"))])

    def test_the_lines_are_those_of_the_save_gone_back_to(self):
        for seed in range(40):
            chance, book, sheet = random.Random(seed), Book(), Sheet([])
            for beat in range(1, 12):
                sheet = sheet.given([self.random_pair(chance, beat) for turn in range(chance.randrange(2))])
                book.add(sheet, 1, beat, beat)
            newest = book.sheet(book.newest())
            for save in range(book.newest() + 1):
                pairs = book.back_pairs(save, 99)
                self.assertEqual(newest.given(pairs).lines(), book.lines(save))
                self.assertEqual([mark for mark, version in pairs], sorted({mark for mark, version in pairs}))

    def random_pair(self, chance, beat):
        mark = (chance.randrange(1, 3), chance.randrange(1, 4))
        if chance.randrange(3) == 0:
            return (mark, (beat, (), ""))
        return (mark, (beat, chance.choice((P, Q, R)), chance.choice("abc")))

    def test_no_save(self):
        for save in NO_SAVES:
            for beat in (30, 1, 0):
                self.assert_refused("NoSave", self.book.back_pairs, save, beat)

    def test_the_book_stays_as_it_was(self):
        self.book.back_pairs(1, 30)
        self.assertEqual(self.book.newest(), 5)
        self.assertEqual([self.book.sheet(save).pairs() for save in range(6)], list(SHEETS))


class OwnListsTest(unittest.TestCase):

    def test_lists_told(self):
        book = whole_book()
        asks = ((book.lines, 3), (book.since, 3), (book.trail, A), (lambda save: book.back_pairs(save, 9), 2))
        for ask, thing in asks:
            kept = list(ask(thing))
            told = ask(thing)
            self.assertIs(type(told), list)
            told[0] = None
            told.append(None)
            self.assertEqual(ask(thing), kept)
            ask(thing).clear()
            self.assertEqual(ask(thing), kept)
        for save in range(6):
            book.sheet(save).pairs().clear()
            self.assertEqual(book.sheet(save).pairs(), SHEETS[save])

    def test_lists_of_a_sheet_that_is_added(self):
        pairs = list(SHEETS[2])
        book = Book()
        book.add(Sheet(pairs), 1, 1, 1)
        pairs.clear()
        self.assertEqual(book.sheet(1).pairs(), SHEETS[2])


if __name__ == "__main__":
    unittest.main()
