"""Promise [30], and [2] as it touches it: records written in rows and read back."""

import itertools
import re
import unittest

from helper import CHOICES, RefusalCase
from twotabs.rows import book_rows, read_book_rows, read_slip_row, slip_row

P = ((0, 1, 1),)
Q = ((0, 1, 1), (-3, 2, 10))
GREAT = 10 ** 30 - 1

SLIP = {
    "begin 4 2 0": ("begin", 4, 2, 0),
    "begin 1 1 17": ("begin", 1, 1, 17),
    "put 5 - hello": ("deed", 5, ("put", None, "hello")),
    "put 5 1.2 hello": ("deed", 5, ("put", (1, 2), "hello")),
    "put 5 0.2 ": ("deed", 5, ("put", (0, 2), "")),
    "put 5 -  two  blanks ": ("deed", 5, ("put", None, " two  blanks ")),
    "put 5 - -": ("deed", 5, ("put", None, "-")),
    "put 5 -  ": ("deed", 5, ("put", None, " ")),
    "put 5 - put 5 - x": ("deed", 5, ("put", None, "put 5 - x")),
    "put 5 - end": ("deed", 5, ("put", None, "end")),
    "take 6 1.2": ("deed", 6, ("take", (1, 2))),
    "move 7 1.2 3.4": ("deed", 7, ("move", (1, 2), (3, 4))),
    "move 7 1.2 -": ("deed", 7, ("move", (1, 2), None)),
    "write 8 1.2 so it is": ("deed", 8, ("write", (1, 2), "so it is")),
    "write 8 1.2 ": ("deed", 8, ("write", (1, 2), "")),
    "write 8 1.2 ~!\"#&'()*+,./:;<=>?@[\\]^_`{|}": ("deed", 8, ("write", (1, 2), "~!\"#&'()*+,./:;<=>?@[\\]^_`{|}")),
    "part 9 1.2 3": ("deed", 9, ("part", (1, 2), 3)),
    "part 9 1.2 0": ("deed", 9, ("part", (1, 2), 0)),
    "part 9 1.2 -3": ("deed", 9, ("part", (1, 2), -3)),
    "join 10 1.2": ("deed", 10, ("join", (1, 2))),
    "carry 11 1.2 3.4 5.6": ("deed", 11, ("carry", (1, 2), (3, 4), (5, 6))),
    "carry 11 1.2 1.2 -": ("deed", 11, ("carry", (1, 2), (1, 2), None)),
    "undo 12": ("undo", 12),
    "again 13": ("again", 13),
    "reload 14 0": ("reload", 14, 0),
    f"reload {GREAT} {GREAT}": ("reload", GREAT, GREAT),
    f"begin {GREAT} {GREAT} {GREAT}": ("begin", GREAT, GREAT, GREAT),
    f"part {GREAT} 0.{GREAT} -{GREAT}": ("deed", GREAT, ("part", (0, GREAT), -GREAT)),
    f"put 1 {GREAT}.1 x": ("deed", 1, ("put", (GREAT, 1), "x")),
}

BOOK = (
    (["save 4 1 0", "end"], (("save", 4, 1, 0), [], [])),
    (["back 4 0", "end"], (("back", 4, 0), [], [])),
    (["settle 4 1 stay", "end"], (("settle", 4, 1, "stay"), [], [])),
    (["settle 4 12 turn", "piece 1.1 4 0.1.1 x", "end"], (("settle", 4, 12, "turn"), [((1, 1), (4, P, "x"))], [])),
    (["settle 4 1 both", "piece 0.1 4 0.1.1/-3.2.10 ", "end"],
     (("settle", 4, 1, "both"), [((0, 1), (4, Q, ""))], [])),
    (["save 9 2 3", "piece 1.1 3 0.1.1 so it is", "piece 1.2 4 -", "clash 1.1 2 0.1.1/-3.2.10  end ", "clash 2.1 8 -",
      "end"],
     (("save", 9, 2, 3), [((1, 1), (3, P, "so it is")), ((1, 2), (4, (), ""))],
      [((1, 1), (2, Q, " end ")), ((2, 1), (8, (), ""))])),
    # What [28] and [29] ask is not asked: orders, beats, marks twice, asides of a going back.
    (["back 4 7", "piece 2.1 99 0.1.1 a", "piece 1.1 98 0.1.1 b", "piece 1.1 1 -", "clash 9.9 100 -", "clash 9.9 5 -",
      "end"],
     (("back", 4, 7), [((2, 1), (99, P, "a")), ((1, 1), (98, P, "b")), ((1, 1), (1, (), ""))],
      [((9, 9), (100, (), "")), ((9, 9), (5, (), ""))])),
    ([f"save {GREAT} {GREAT} {GREAT}", f"piece {GREAT}.{GREAT} {GREAT} -{GREAT}.0.{GREAT} w", "end"],
     (("save", GREAT, GREAT, GREAT), [((GREAT, GREAT), (GREAT, ((-GREAT, 0, GREAT),), "w"))], [])),
)

NO_SLIP = (
    "", " ", "end", "begin", "undo", "undo ", " undo 5", "undo  5", "undo 5 ", "undo 5 6", "undo 0", "undo -1",
    "undo 05", "undo x", "undo +5", "Undo 5", "undo\t5", "undo 5\n", "undoing 5", "undo 1.1",
    "again", "again 0", "again 5 5", "begin 1 1", "begin 1 1 0 0", "begin 0 1 0", "begin 1 0 0", "begin 1 1 -1",
    "begin 1 1 ", "begin 1  1 0", "begin 1 1 0 ", "begin 01 1 0", "begin 1 1.1 0", "begin 1 1 -",
    "put 5 -", "put 5", "put 0 - x", "put - - x", "put 5 1 x", "put 5 1.0 x", "put 5 -1.1 x", "put 5 1.1.1 x",
    "put 5  x", "put  5 - x", "put 5 -- x", "put 5 - a\tb", "put 5 - a\n", "put 5 1.01 x", "put 5 None x",
    "take 5", "take 5 -", "take 5 1.1 ", "take 5 1.1 x", "take 5 1", "take 0 1.1", "take 5 1.0", "take 5 -1.1",
    "move 5 1.1", "move 5 - 1.1", "move 5 1.1 1.1 1.1", "move 5 1.1 ", "move 0 1.1 -", "move 5 1.1 - ", "move 5 1.1 --",
    "write 5 1.1", "write 5 - x", "write 0 1.1 x", "write 5 1.1 \t", "write 5 1.1 \n",
    "part 5 1.1", "part 5 1.1 ", "part 5 1.1 x", "part 5 1.1 3 ", "part 5 1.1 -0", "part 5 1.1 03", "part 5 1.1 -",
    "part 5 - 3", "part 0 1.1 3", "part 5 1.1 3 3", "join 5", "join 5 -", "join 5 1.1 1.1", "join 0 1.1",
    "carry 5 1.1 1.1", "carry 5 1.1 - -", "carry 5 - 1.1 -", "carry 5 1.1 1.1 - -", "carry 0 1.1 1.1 -",
    "carry 5 1.1 1.1 ", "carry 5 1.1  1.1 -", "reload 5", "reload 5 -1", "reload 5 -", "reload 0 0", "reload 5 0 0",
    "save 5 1 0", "back 5 0", "settle 5 1 stay", "piece 1.1 4 -", "clash 1.1 4 -", "deed 5 put - x", "deed 5",
    f"undo {GREAT + 1}", f"reload 5 {GREAT + 1}", f"part 5 1.1 {GREAT + 1}", f"part 5 1.1 -{GREAT + 1}",
    f"take 5 1.{GREAT + 1}", "undo " + "9" * 5000,
)

HEAD = "save 9 2 3"
PIECE = "piece 1.1 4 -"
ASIDE = "clash 1.1 3 -"
NO_BOOK = (
    [], ["end"], [""], ["save 9 2 3"], [HEAD, PIECE], [HEAD, "end", "end"], ["end", HEAD, "end"], [HEAD, "end", PIECE],
    [HEAD, PIECE, "end", PIECE, "end"], [HEAD, ASIDE, PIECE, "end"], [HEAD, PIECE, ASIDE, PIECE, "end"],
    [PIECE, "end"], [ASIDE, "end"], [PIECE, HEAD, "end"], [HEAD, HEAD, "end"], [HEAD, PIECE, HEAD, "end"],
    [HEAD, "back 9 1", "end"], ["undo 5", "end"], ["put 5 - x", "end"], [HEAD, "undo 5", "end"], ["begin 1 1 0", "end"],
    [HEAD, "", "end"], [HEAD, PIECE, "end "], [HEAD, PIECE, " end"], [HEAD, PIECE, "End"], [HEAD, PIECE, "end\n"],
    [HEAD, PIECE, "ends"], [HEAD, PIECE, "end 1"], [HEAD, "end 1", "end"], [HEAD, PIECE, ""],
    *[[head, "end"] for head in (
        "save 0 2 3", "save 9 0 3", "save 9 2 -1", "save 9 2", "save 9 2 3 4", "save 9 2 ", "save 9  2 3",
        "save 9 2 3 ",
        " save 9 2 3", "save 09 2 3", "save x 2 3", "save", "Save 9 2 3", "save 9 2 3\n", "save 9 1.1 3",
        f"save 9 2 {GREAT + 1}", "back 9", "back 9 -1", "back 0 1", "back 9 1 1", "back 9 1 ", "back 9 -", "back",
        "settle 9 1", "settle 9 0 stay", "settle 0 1 stay", "settle 9 -1 stay", "settle 9 1 ", "settle 9 1 none",
        "settle 9 1 stay ", "settle 9 1 Stay", "settle 9 1 stay turn", "settle 9  stay", "settle 9 1  stay")],
    *[[HEAD, row, "end"] for row in (
        "piece", "piece 1.1", "piece 1.1 ", "piece 1.1 4", "piece 1.1 4 ", "piece 1.1 0 -", "piece 1.1 4 - ",
        "piece 1.1 4 - x", "piece 1.0 4 -", "piece - 4 -", "piece 1.1 4 0.1.1", "piece 1.1 4 0.1 x", "piece  1.1 4 -",
        "piece 1.1  4 -", "piece 1.1 4  -", "piece 1.1 4 0.1.1/ x", "piece 1.1 4 0.1.1 a\tb", "piece 1.1 4 0.1.1 a\nb",
        "Piece 1.1 4 -", "pieces 1.1 4 -", "piece 1.1 -", "piece 1 4 -", "piece 1.1 -4 0.1.1 x",
        "piece 1.1 4 0.-1.1 x")],
    *[[HEAD, row, "end"] for row in ("clash", "clash 1.1", "clash 1.1 0 -", "clash 1.1 4", "clash 1.1 4 - ",
                                     "clash - 4 -", "clash 1.1 4 0.1.1", "clash 1.1 4 0.1.1 \t", "clash 1 stay")],
)


class SlipTest(RefusalCase):

    def test_written(self):
        for row, record in SLIP.items():
            with self.subTest(row):
                self.assertEqual(slip_row(record), row)

    def test_read(self):
        for row, record in SLIP.items():
            with self.subTest(row):
                told = read_slip_row(row)
                self.assertEqual(told, record)
                self.assertEqual([type(each) for each in told], [type(each) for each in record])

    def test_no_row(self):
        for row in NO_SLIP:
            with self.subTest(row[:60]):
                self.assert_refused("NoText", read_slip_row, row)

    def test_a_sign_more_less_or_another_one(self):
        # A row that is read is just the row that is written of what was read; all others are refused.
        signs = " -./0159abdegu~\t\n"
        taken = 0
        for row in SLIP:
            if len(row) > 40:
                continue
            for at in range(len(row) + 1):
                changed = [row[:at] + row[at + 1:]] + [row[:at] + sign + row[at:] for sign in signs]
                changed += [row[:at] + sign + row[at + 1:] for sign in signs]
                for other in changed:
                    taken += self.check_row(other)
        self.assertGreater(taken, 1000)

    def check_row(self, row):
        try:
            record = read_slip_row(row)
        except ValueError as error:
            self.assert_just(error, "NoText")
            self.assertFalse(is_slip_row(row), row)
            return 0
        self.assertTrue(is_slip_row(row), row)
        self.assertEqual(slip_row(record), row)
        return 1

    def test_numbers_that_cannot_be_written(self):
        far = GREAT + 1
        for record in (("undo", far), ("again", far), ("begin", far, 1, 0), ("begin", 1, far, 0), ("begin", 1, 1, far),
                       ("reload", 1, far), ("deed", far, ("take", (1, 1))), ("deed", 1, ("take", (1, far))),
                       ("deed", 1, ("take", (far, 1))), ("deed", 1, ("part", (1, 1), far)),
                       ("deed", 1, ("part", (1, 1), -far)), ("deed", 1, ("put", (far, 1), "x")),
                       ("deed", 1, ("move", (1, 1), (1, far))), ("undo", 10 ** 6000)):
            self.assert_refused("NoText", slip_row, record)


# The rows of [30] once more, by themselves: each as a pattern.
FIRST = "[1-9][0-9]{0,29}"
NOUGHT = f"(0|{FIRST})"
ANY = f"(0|-?{FIRST})"
MARK = f"{NOUGHT}[.]{FIRST}"
BEHIND = f"(-|{MARK})"
WORDS = "[^\\n\\t]*"
STEP = f"{ANY}[.]{MARK}"
VERSION = f"{FIRST} (-|{STEP}(/{STEP})* {WORDS})"
SLIP_PATTERN = "|".join((
    f"begin {FIRST} {FIRST} {NOUGHT}", f"put {FIRST} {BEHIND} {WORDS}", f"take {FIRST} {MARK}",
    f"move {FIRST} {MARK} {BEHIND}", f"write {FIRST} {MARK} {WORDS}", f"part {FIRST} {MARK} {ANY}",
    f"join {FIRST} {MARK}", f"carry {FIRST} {MARK} {MARK} {BEHIND}", f"undo {FIRST}", f"again {FIRST}",
    f"reload {FIRST} {NOUGHT}"))
HEAD_PATTERN = f"save {FIRST} {FIRST} {NOUGHT}|back {FIRST} {NOUGHT}|settle {FIRST} {FIRST} (stay|turn|both)"


def is_slip_row(row):
    return re.fullmatch(SLIP_PATTERN, row) is not None


def is_book_record(rows):
    """Whether rows are a record of the book: by the letters of their kinds, head, pieces, clashes and end."""
    patterns = (("h", HEAD_PATTERN), ("p", f"piece {MARK} {VERSION}"), ("c", f"clash {MARK} {VERSION}"), ("e", "end"))
    kinds = ["".join(kind for kind, pattern in patterns if re.fullmatch(pattern, row)) or "?" for row in rows]
    return re.fullmatch("hp*c*e", "".join(kinds)) is not None


class BookTest(RefusalCase):

    def test_written(self):
        for rows, record in BOOK:
            with self.subTest(rows):
                self.assertEqual(book_rows(record), rows)
                self.assertIs(type(book_rows(record)), list)

    def test_read(self):
        for rows, record in BOOK:
            with self.subTest(rows):
                told = read_book_rows(rows)
                self.assertEqual(told, record)
                self.assertEqual([type(each) for each in (told,) + told], [tuple, tuple, list, list])
                self.assertEqual({type(pair) for pairs in told[1:] for pair in pairs} | {tuple}, {tuple})

    def test_no_record(self):
        for rows in NO_BOOK:
            with self.subTest(rows):
                self.assert_refused("NoText", read_book_rows, rows)

    def test_the_order_of_rows(self):
        rows = [HEAD, "piece 1.1 4 -", "piece 1.2 5 0.1.1 x", "clash 1.1 3 -", "clash 1.2 2 -", "end"]
        for order in itertools.permutations(rows):
            words = [row.split(" ")[0] for row in order]
            if words == ["save", "piece", "piece", "clash", "clash", "end"]:
                read_book_rows(list(order))
            else:
                self.assert_refused("NoText", read_book_rows, list(order))

    def test_each_row_left_out_or_twice(self):
        rows = [HEAD, "piece 1.1 4 -", "clash 1.1 3 -", "end"]
        for at, row in enumerate(rows):
            less, twice = rows[:at] + rows[at + 1:], rows[:at + 1] + rows[at:]
            if row in (HEAD, "end"):
                self.assert_refused("NoText", read_book_rows, less)
                self.assert_refused("NoText", read_book_rows, twice)
            else:
                self.assertEqual(book_rows(read_book_rows(less)), less)
                self.assertEqual(book_rows(read_book_rows(twice)), twice)

    def test_each_choice(self):
        for choice in CHOICES:
            self.assertEqual(read_book_rows([f"settle 4 1 {choice}", "end"]), (("settle", 4, 1, choice), [], []))

    def test_a_sign_more_less_or_another_one(self):
        signs = " -./019abdeu~\t\n"
        for rows, record in BOOK[:6]:
            for line, row in enumerate(rows):
                for at, sign in itertools.product(range(len(row) + 1), signs):
                    for other in (row[:at] + sign + row[at:], row[:at] + sign + row[at + 1:], row[:at] + row[at + 1:]):
                        self.check_rows(rows[:line] + [other] + rows[line + 1:])

    def check_rows(self, rows):
        try:
            record = read_book_rows(rows)
        except ValueError as error:
            self.assert_just(error, "NoText")
            self.assertFalse(is_book_record(rows), rows)
            return
        self.assertTrue(is_book_record(rows), rows)
        self.assertEqual(book_rows(record), rows)

    def test_numbers_that_cannot_be_written(self):
        far = GREAT + 1
        for head in (("save", far, 1, 0), ("save", 1, far, 0), ("save", 1, 1, far), ("back", far, 0), ("back", 1, far),
                     ("settle", far, 1, "stay"), ("settle", 1, far, "stay")):
            self.assert_refused("NoText", book_rows, (head, [], []))
        for pair in (((1, far), (1, P, "x")), ((far, 1), (1, P, "x")), ((1, 1), (far, P, "x")),
                     ((1, 1), (far, (), "")), ((1, 1), (1, ((far, 1, 1),), "")),
                     ((1, 1), (1, ((1, 1, 10 ** 6000),), ""))):
            self.assert_refused("NoText", book_rows, (("save", 1, 1, 0), [pair], []))
            self.assert_refused("NoText", book_rows, (("save", 1, 1, 0), [], [pair]))

    def test_long_places_and_words(self):
        place = tuple((at % 7 - 3, at % 5, at + 1) for at in range(4000))
        record = (("save", 9, 1, 1), [((1, 1), (3, place, "w" * 10000))], [((1, 1), (2, place[:-1], " " * 5000))])
        self.assert_same(read_book_rows(book_rows(record)), record)


class OwnListsTest(unittest.TestCase):

    def test_lists_handed_in(self):
        for rows, record in BOOK:
            handed = list(rows)
            pieces, asides = list(record[1]), list(record[2])
            told = read_book_rows(handed)
            written = book_rows((record[0], pieces, asides))
            self.assertEqual((handed, pieces, asides), (rows, record[1], record[2]))
            handed.clear()
            pieces.append(None)
            asides.append(None)
            self.assertEqual((told, written), (record, rows))

    def test_lists_told(self):
        for rows, record in BOOK:
            read_book_rows(rows)[1].append(None)
            read_book_rows(rows)[2].append(None)
            book_rows(record).clear()
            self.assertEqual((read_book_rows(rows), book_rows(record)), (record, rows))


if __name__ == "__main__":
    unittest.main()
