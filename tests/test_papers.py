"""Promise [31], and [2] as it touches it: a house written on papers and read from them."""

import random
import unittest

from helper import RefusalCase, by_chance, closed, house_told
from twotabs.built import built
from twotabs.house import House
from twotabs.papers import house_of, papers

NAMES = ("a", "b", "c")

ROWS = (
    "save 4 1 2", "piece 1.1 2 0.1.1 hello", "piece 1.2 3 0.1.1/0.1.2  end ", "end",
    "save 8 1 3", "piece 1.1 6 0.1.1 hello you", "end",
    "save 9 2 1", "piece 1.1 7 -", "clash 1.1 6 0.1.1 hello you", "end",
    "settle 10 1 both", "piece 0.1 10 0.1.1/-1.0.1 hello you", "end",
    "back 11 0", "piece 0.1 11 -", "piece 1.2 11 -", "end",
)
BOOK = "".join(row + "\n" for row in ROWS)
SLIPS = [
    ("left", "begin 1 1 0\nput 2 - hello\nput 3 1.1  end \nwrite 6 1.1 hello you\nwrite 13 1.2 x\nundo 14\n"),
    ("right", "begin 5 2 1\ntake 7 1.1\nreload 12 5\nput 15 - \n"),
]


def example():
    """The house of these papers."""
    house = House()
    house.opens("left")
    house.does("left", ("put", None, "hello"))
    house.does("left", ("put", (1, 1), " end "))
    house.save("left")
    house.opens("right")
    house.does("left", ("write", (1, 1), "hello you"))
    house.does("right", ("take", (1, 1)))
    house.save("left")
    house.save("right")
    house.settle(1, "both")
    house.back(0)
    house.reload("right")
    house.does("left", ("write", (1, 2), "x"))
    house.undo("left")
    house.does("right", ("put", None, ""))
    return house


class WrittenTest(RefusalCase):

    def test_a_new_house(self):
        self.assertEqual(papers(House()), ("", []))

    def test_an_example(self):
        told = papers(example())
        self.assertEqual(told, (BOOK, SLIPS))
        self.assertEqual([type(each) for each in (told,) + told + (told[1][0],)], [tuple, str, list, tuple])

    def test_windows_numbers_rising(self):
        house = House()
        for name in ("c", "a", "b"):
            house.opens(name)
        self.assertEqual([name for name, slip in papers(house)[1]], ["c", "a", "b"])

    def test_nothing_is_changed_by_it(self):
        house = example()
        before = house_told(house)
        papers(house)[1].clear()
        self.assertEqual(house_told(house), before)
        self.assertEqual(papers(house), (BOOK, SLIPS))


class ReadTest(RefusalCase):

    def test_no_papers(self):
        self.assertEqual(house_told(house_of("", [])), house_told(House()))

    def test_an_example(self):
        house = house_of(BOOK, SLIPS)
        self.assertIsInstance(house, House)
        self.assertEqual(house_told(house), house_told(closed(example())))
        self.assertEqual(papers(house), (BOOK, SLIPS))

    def test_written_read_and_written_again(self):
        for seed in range(60):
            house = by_chance(seed, 100, NAMES)
            book, slips = papers(house)
            anew = house_of(book, slips)
            self.assertEqual(papers(anew), (book, slips))
            self.assertEqual(house_told(anew), house_told(closed(house)))

    def test_slips_in_any_order(self):
        for seed in range(20):
            book, slips = papers(by_chance(seed, 60, NAMES))
            shuffled = list(slips)
            random.Random(seed).shuffle(shuffled)
            self.assertEqual(papers(house_of(book, shuffled)), (book, slips))

    def test_words_that_look_like_rows(self):
        house = House()
        house.opens("a")
        behind = None
        for words in ("end", "", " ", "save 1 1 0", "-", " end", "end ", "undo 5", "piece 1.1 4 -", "a  b", "\\n"):
            (behind,) = house.does("a", ("put", behind, words))
        house.save("a")
        anew = house_of(*papers(house))
        self.assertEqual(anew.read(1), house.read(1))
        self.assertEqual(papers(anew), papers(house))

    def test_slips_without_a_whole_row(self):
        for text in ("", "begin 1 1 0", "beg", "\t", "no row"):
            for name in ("a", "No Name", ""):
                house = house_of("", [(name, text), (name, text)])
                self.assertEqual((house.windows(), house.slips()), ([], []))

    def test_lists_handed_in(self):
        slips = list(SLIPS)
        house = house_of(BOOK, slips)
        self.assertEqual(slips, SLIPS)
        slips.clear()
        self.assertEqual(papers(house), (BOOK, SLIPS))


class CutTest(RefusalCase):

    def test_a_book_at_every_sign(self):
        records = example().records()
        ends = [at + 4 for at in range(len(BOOK)) if BOOK[at:at + 5] == "\nend\n"]
        for at in range(len(BOOK) + 1):
            whole = len([end for end in ends if end < at])
            self.assertEqual(house_of(BOOK[:at], []).records(), records[:whole])

    def test_books_by_chance_at_every_sign(self):
        for seed in range(8):
            house = by_chance(seed, 60, NAMES)
            book, slips = papers(house)
            for at in range(len(book) + 1):
                whole = book[:at].count("\nend\n")
                self.assertEqual(house_of(book[:at], []).records(), house.records()[:whole])

    def test_a_slip_at_every_sign(self):
        for turn, (name, text) in enumerate(SLIPS):
            notes = dict(example().slips())[name]
            others = SLIPS[:turn] + SLIPS[turn + 1:]
            for at in range(len(text) + 1):
                house = house_of(BOOK, others + [(name, text[:at])])
                self.assertEqual(dict(house.slips()).get(name, []), notes[:text[:at].count("\n")])

    def test_what_stands_behind_the_last_end_is_left_out(self):
        for rest in ("x", "\n", "\n\n", "no row\n", "end", "en", "save", "save 12 1 3\n", "save 12 1 3\npiece 1.1 4",
                     "piece 1.1 4 -\nno row\n", " end\n", "end \n", "ending\n", "save 1 1 1\nsave 1 1 1\nend",
                     "\tend\n",
                     "undo 5\nx end\n"):
            house = house_of(BOOK + rest, SLIPS)
            self.assertEqual(papers(house), (BOOK, SLIPS))

    def test_what_stands_behind_the_last_row_end_of_a_slip_is_left_out(self):
        for rest in ("x", "undo 99", "no row at all", "\t", "put 3 - x"):
            slips = [(name, text + rest) for name, text in SLIPS]
            self.assertEqual(papers(house_of(BOOK, slips)), (BOOK, SLIPS))

    def test_a_book_without_a_whole_row_end(self):
        for book in ("", "end", "x", "\n", "save 4 1 2", "save 4 1 2\n", "save 4 1 2\nend", "no row\n\n", "end end\n",
                     " end\n", "piece 1.1 2 0.1.1 end\n", "save 4 1 2\npiece 1.1 2 0.1.1 end\n", "END\n"):
            house = house_of(book, [("a", "begin 3 1 0\n")])
            self.assertEqual((house.newest(), house.records(), house.windows()), (0, [], [("a", 1, False)]))


class NoPaperTest(RefusalCase):

    def assert_no_paper(self, book, slips):
        with self.subTest((book, slips)):
            kept = list(slips)
            self.assert_refused("NoPaper", house_of, book, slips)
            self.assertEqual(slips, kept)

    def test_a_row_of_a_slip_that_is_none(self):
        for row in ("", " ", "x", "undo", "undo 0", "undo 9 ", "put 9 -", "put 9 - a\tb", "end", "save 9 1 1",
                    "piece 1.1 4 -", "Undo 9", "take 9 1", "reload 9 -1"):
            self.assert_no_paper("", [("a", "begin 1 1 0\n" + row + "\n")])
            self.assert_no_paper("", [("a", row + "\nbegin 1 1 0\n")])
            self.assert_no_paper("", [("a", "begin 1 1 0\n" + row + "\nundo 99")])
            # A slip without records is none, but one of such rows is no slip without records.
            self.assert_no_paper("", [("No Name", row + "\n")])

    def test_rows_up_to_an_end_that_are_no_record(self):
        for rows in ("end\n", "\nend\n", "x\nend\n", "save 4 1\nend\n", "save 4 1 2\nx\nend\n", "save 4 1 2\n\nend\n",
                     "piece 1.1 2 -\nend\n", "save 4 1 2\nclash 1.1 1 -\npiece 1.1 2 -\nend\n", "undo 4\nend\n",
                     "save 4 1 2\nsave 5 1 2\nend\n", "save 4 1 2\npiece 1.1 2 0.1.1\nend\n", "settle 4 1 none\nend\n",
                     "save 4 1 2\npiece 1.1 2 0.1.1 a\tb\nend\n"):
            self.assert_no_paper(rows, [])
            self.assert_no_paper("save 3 1 0\nend\n" + rows, [])
            self.assert_no_paper(rows + "save 99 1 0\nend\n", [])
            self.assert_no_paper(rows + "save 99 1 0\npie", [])

    def test_records_that_are_refused(self):
        for book, slips in (
            ("save 4 1 2\nend\nsave 4 1 2\nend\n", []), ("save 4 1 2\npiece 1.1 5 -\nend\n", []),
            ("save 4 1 2\npiece 1.2 3 -\npiece 1.1 3 -\nend\n", []), ("back 4 1\nend\n", []),
            ("settle 4 1 stay\nend\n", []), ("save 4 1 2\nclash 1.1 3 -\nend\n", []),
            ("", [("A", "begin 1 1 0\n")]), ("", [("a", "begin 1 1 1\n")]), ("", [("a", "undo 1\n")]),
            ("", [("a", "begin 1 1 0\nundo 2\n")]), ("", [("a", "begin 1 1 0\n"), ("a", "begin 2 2 0\n")]),
            ("", [("a", "begin 1 1 0\n"), ("b", "begin 2 1 0\n")]),
            ("", [("a", "begin 1 1 0\n"), ("b", "begin 1 2 0\n")]),
            ("", [("a", "begin 1 1 0\ntake 2 1.1\n")]), ("", [("a", "begin 2 1 0\nput 2 - x\n")]),
            ("save 4 1 2\nend\n", [("a", "begin 5 1 0\n")]), ("save 4 1 2\nend\n", [("a", "begin 3 1 1\n")]),
        ):
            self.assert_no_paper(book, slips)

    def test_a_book_cut_off_below_what_a_slip_knows(self):
        self.assert_no_paper(BOOK[:BOOK.index("save 9")], SLIPS)

    def test_records_that_no_house_would_write(self):
        book = "save 9 7 3\npiece 1.1 9 0.1.1 x\nclash 1.1 8 0.1.1 y\nend\nsettle 12 1 stay\npiece 1.1 11 -\nend\n"
        house = house_of(book, [("a", "begin 5 7 0\nundo 6\n")])
        self.assertEqual(papers(house), (book, [("a", "begin 5 7 0\nundo 6\n")]))
        self.assertEqual(house_told(house), house_told(built(house.records(), house.slips())))


if __name__ == "__main__":
    unittest.main()
