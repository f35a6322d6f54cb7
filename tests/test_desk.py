"""Promise [32], and [2] as it touches it: the desk, its rows and its answers."""

import random
import unittest

from helper import RefusalCase
from twotabs.desk import Desk

NO_ROWS = (
    "", " ", "open", "open ", "open  a", " open a", "open a ", "open a b", "Open a", "opens a", "close",
    "close ", "close a b", "put", "put a", "put a 0", "put a x w", "put a -1 w", "put a 00 w", "put a 01 w",
    "put a 12345 w", "put a  w", "put  0 w", "put a + w", "put  a 0 w", "put a 0\tw", "put a 0\nw", "take", "take a",
    "take a ", "take a x", "take a 1 ", "take a 1 2", "take a 01", "take a -1", "take a 00001", "take  1", "take a 1\n",
    "move a", "move a 1", "move a 1 ", "move a 1 x", "move a 1 2 3", "move a x 1", "move a 1 02", "move a 1  2",
    "move a 12345 1", "write a", "write a 1", "write a x w", "write a 01 w", "write a -1 w", "write a 12345 w",
    "part a", "part a 1", "part a 1 ", "part a 1 x", "part a 1 -1", "part a 1 03", "part a 1 12345", "part a 1 2 3",
    "part a x 1", "join a", "join a ", "join a x", "join a 1 2", "join a 10000", "carry a 1 2", "carry a 1 2 ",
    "carry a 1 2 x", "carry a 1 x 2", "carry a x 1 2", "carry a 1 2 3 4", "carry a 1 2 03", "carry a 1 2 -1",
    "carry a 1 2 10000", "undo", "undo ", "undo a b", "undo a ", "again", "again ", "again a b", "reload", "reload ",
    "reload a 1", "save", "save ", "save a 1", "show", "show ", "show a b", "unsaved", "unsaved ", "unsaved a b",
    "read",
    "read ", "read x", "read -1", "read 01", "read 12345", "read 1 2", "read 1 ", "read\t1", "clashes ", "clashes 1",
    "clash", "settle", "settle 1", "settle 1 ", "settle x stay", "settle 01 stay", "settle -1 stay",
    "settle 12345 stay",
    "settle 1 stay ", "settle 1  stay", "settle 1 stay turn", "settle stay 1", "settle  stay", "back", "back ",
    "back x",
    "back -1", "back 00", "back 12345", "back 1 2", "back 1 ", "cut ", "cut a", "Cut", "cutting", "cut\n", "clashes\n",
    "ok", "begin 1 1 0", "\n", "\t", "news a", "would a",
)


def desk_with(*rows):
    """A desk behind these rows, of which each is done."""
    desk = Desk()
    for row in rows:
        answer = desk.say(row)
        assert answer == "ok" or answer.startswith("save "), (row, answer)
    return desk


THREE = ("open a", "put a 0 one", "put a 1 two", "put a 2 three")


class DeskCase(RefusalCase):

    def assert_answers(self, desk, *pairs):
        for row, answer in pairs:
            with self.subTest(row):
                told = desk.say(row)
                self.assertEqual(told, answer)
                self.assertIs(type(told), str)


class OpenTest(DeskCase):

    def test_open(self):
        self.assert_answers(Desk(), ("open a", "ok"), ("open a", "is open"), ("open abcdefgh", "ok"), ("open b", "ok"),
                            ("close a", "ok"), ("open a", "ok"))

    def test_no_name(self):
        desk = Desk()
        for name in ("A", "abcdefghi", "a1", "1", "-", "a\tb", "a\n", "\n", "\t", "a.b", "~"):
            self.assert_answers(desk, (f"open {name}", "no name"))
        self.assert_answers(desk, ("open a", "ok"))

    def test_close(self):
        self.assert_answers(Desk(), ("close a", "no window"), ("open a", "ok"), ("close a", "ok"),
                            ("close a", "no window"),
                            ("close A", "no window"), ("close a\n", "no window"))


class NoWindowTest(DeskCase):

    ROWS = ("close {}", "put {} 0 x", "put {} 9 a\tb", "take {} 9", "move {} 1 1", "write {} 9 \n", "part {} 1 9999",
            "join {} 9", "carry {} 3 1 2", "undo {}", "again {}", "reload {}", "save {}", "show {}", "unsaved {}")

    def test_never_opened(self):
        for name in ("b", "B", "abcdefghi", "\n", "a\t"):
            desk = desk_with(*THREE)
            self.assert_answers(desk, *[(row.replace("{}", name), "no window") for row in self.ROWS])
            self.assert_answers(desk, ("show a", "3\none\ntwo\nthree"))

    def test_closed(self):
        desk = desk_with(*THREE, "close a")
        self.assert_answers(desk, *[(row.replace("{}", "a"), "no window") for row in self.ROWS])
        self.assert_answers(desk, ("open a", "ok"), ("show a", "3\none\ntwo\nthree"))


class DeedTest(DeskCase):

    def lines_behind(self, *rows):
        desk = desk_with(*THREE, *rows)
        return desk.say("show a").split("\n")[1:]

    def test_put(self):
        self.assertEqual(self.lines_behind("put a 0 x"), ["x", "one", "two", "three"])
        self.assertEqual(self.lines_behind("put a 1 x y"), ["one", "x y", "two", "three"])
        self.assertEqual(self.lines_behind("put a 3 x"), ["one", "two", "three", "x"])
        self.assertEqual(self.lines_behind("put a 3 "), ["one", "two", "three", ""])
        self.assertEqual(self.lines_behind("put a 3   x  "), ["one", "two", "three", "  x  "])
        self.assertEqual(self.lines_behind("put a 3  "), ["one", "two", "three", " "])
        self.assert_answers(desk_with(*THREE), ("put a 4 x", "no line"), ("put a 9999 x", "no line"),
                            ("put a 0 a\tb", "no words"), ("put a 0 \n", "no words"), ("put a 0 \t", "no words"),
                            ("put a 4 a\tb", "no words"), ("put a 9999 x\n", "no words"),
                            ("show a", "3\none\ntwo\nthree"))

    def test_take(self):
        self.assertEqual(self.lines_behind("take a 1"), ["two", "three"])
        self.assertEqual(self.lines_behind("take a 3"), ["one", "two"])
        self.assert_answers(desk_with(*THREE), ("take a 0", "no line"), ("take a 4", "no line"),
                            ("take a 9999", "no line"),
                            ("unsaved a", "3"), ("show a", "3\none\ntwo\nthree"))

    def test_move(self):
        self.assertEqual(self.lines_behind("move a 1 3"), ["two", "three", "one"])
        self.assertEqual(self.lines_behind("move a 3 0"), ["three", "one", "two"])
        self.assertEqual(self.lines_behind("move a 2 1"), ["one", "two", "three"])
        self.assert_answers(desk_with(*THREE), ("move a 0 1", "no line"), ("move a 4 1", "no line"),
                            ("move a 1 4", "no line"),
                            ("move a 1 1", "no line"), ("move a 0 0", "no line"), ("move a 4 4", "no line"),
                            ("move a 5 0", "no line"))

    def test_write(self):
        self.assertEqual(self.lines_behind("write a 2 x "), ["one", "x ", "three"])
        self.assertEqual(self.lines_behind("write a 2 "), ["one", "", "three"])
        self.assert_answers(desk_with(*THREE), ("write a 0 x", "no line"), ("write a 4 x", "no line"),
                            ("write a 1 a\tb", "no words"), ("write a 1 a\nb", "no words"),
                            ("write a 0 \t", "no words"),
                            ("write a 4 \n", "no words"))

    def test_part(self):
        self.assertEqual(self.lines_behind("part a 3 2"), ["one", "two", "th", "ree"])
        self.assertEqual(self.lines_behind("part a 1 0"), ["", "one", "two", "three"])
        self.assertEqual(self.lines_behind("part a 1 3"), ["one", "", "two", "three"])
        self.assert_answers(desk_with(*THREE), ("part a 0 1", "no line"), ("part a 4 1", "no line"),
                            ("part a 1 4", "no cut"),
                            ("part a 1 9999", "no cut"), ("part a 4 9999", "no line"), ("part a 0 0", "no line"))

    def test_join(self):
        self.assertEqual(self.lines_behind("join a 1"), ["onetwo", "three"])
        self.assertEqual(self.lines_behind("join a 2", "join a 1"), ["onetwothree"])
        self.assert_answers(desk_with(*THREE), ("join a 0", "no line"), ("join a 3", "no line"),
                            ("join a 4", "no line"))

    def test_carry(self):
        self.assertEqual(self.lines_behind("carry a 1 2 3"), ["three", "one", "two"])
        self.assertEqual(self.lines_behind("carry a 2 3 0"), ["two", "three", "one"])
        self.assertEqual(self.lines_behind("carry a 2 2 0"), ["two", "one", "three"])
        self.assertEqual(self.lines_behind("carry a 1 3 0"), ["one", "two", "three"])
        self.assert_answers(
            desk_with(*THREE), ("carry a 0 1 3", "no line"), ("carry a 1 0 3", "no line"), ("carry a 1 4 0", "no line"),
            ("carry a 4 1 0", "no line"), ("carry a 1 2 4", "no line"), ("carry a 2 1 0", "no stretch"),
            ("carry a 1 2 1", "no stretch"), ("carry a 1 2 2", "no stretch"), ("carry a 2 1 4", "no line"),
            ("carry a 2 1 1", "no stretch"), ("carry a 4 4 4", "no line"), ("carry a 1 1 1", "no stretch"))

    def test_lines_of_an_empty_draft(self):
        self.assert_answers(Desk(), ("open a", "ok"), ("take a 1", "no line"), ("take a 0", "no line"),
                            ("put a 1 x", "no line"), ("join a 1", "no line"), ("show a", "0"), ("unsaved a", "0"),
                            ("put a 0 x", "ok"), ("show a", "1\nx"), ("unsaved a", "1"))

    def test_a_line_that_is_none_is_no_piece_that_was_kept_by_both(self):
        desk = clashing()
        self.assert_answers(desk, ("save b", "save 3 clash 1 clash 2"), ("settle 1 both", "save 4"), ("reload a", "ok"),
                            ("show a", "4\nof b\nof a\ntwo a\nsame"), ("take a 0", "no line"), ("take a 5", "no line"),
                            ("put a 5 x", "no line"), ("move a 1 5", "no line"), ("carry a 1 1 5", "no line"))

    def test_lines_of_four_figures(self):
        desk = desk_with("open a", *["put a 0 x" for turn in range(1001)])
        self.assert_answers(desk, ("write a 1001 last", "ok"), ("write a 1002 no", "no line"),
                            ("move a 1001 1000", "ok"),
                            ("take a 1000", "ok"), ("put a 1000 new", "ok"), ("put a 1002 no", "no line"))
        self.assertEqual(desk.say("show a").split("\n")[-3:], ["x", "last", "new"])

    def test_words_of_many_signs(self):
        desk = desk_with("open a", "put a 0 " + "w" * 9999)
        self.assert_answers(desk, ("part a 1 9999", "ok"), ("show a", "2\n" + "w" * 9999 + "\n"),
                            ("part a 2 1", "no cut"))


class UndoTest(DeskCase):

    def test_undo(self):
        self.assert_answers(desk_with(*THREE), ("again a", "no deed"), ("undo a", "ok"), ("show a", "2\none\ntwo"),
                            ("undo a", "ok"), ("undo a", "ok"), ("undo a", "no deed"), ("show a", "0"),
                            ("again a", "ok"),
                            ("show a", "1\none"), ("put a 0 x", "ok"), ("again a", "no deed"))

    def test_behind_a_save(self):
        self.assert_answers(desk_with(*THREE), ("save a", "save 1"), ("undo a", "no deed"), ("again a", "no deed"),
                            ("unsaved a", "0"))

    def test_unsaved(self):
        self.assert_answers(desk_with(*THREE, "save a"), ("unsaved a", "0"), ("join a 1", "ok"), ("unsaved a", "2"),
                            ("write a 1 x", "ok"), ("unsaved a", "2"), ("undo a", "ok"), ("undo a", "ok"),
                            ("unsaved a", "0"))


def clashing():
    """A desk with two windows that clash in two lines, and one that is alike; nothing of b is saved yet."""
    return desk_with(*THREE, "save a", "open b", "write a 1 of a", "write b 1 of b", "take b 2", "write a 2 two a",
                     "write a 3 same", "write b 2 same", "save a")


class SaveTest(DeskCase):

    def test_save(self):
        self.assert_answers(Desk(), ("open a", "ok"), ("save a", "save 1"), ("put a 0 x", "ok"), ("save a", "save 2"),
                            ("save a", "save 3"), ("read 0", "0"), ("read 1", "0"), ("read 2", "1\nx"),
                            ("read 3", "1\nx"),
                            ("read 4", "no save"), ("read 9999", "no save"))

    def test_clashes(self):
        desk = clashing()
        self.assert_answers(desk, ("clashes", "0"), ("save b", "save 3 clash 1 clash 2"),
                            ("show b", "3\nof b\ntwo a\nsame"),
                            ("clashes", "2\n1 in of b\n1 in of a\n2 in two a\n2 out"),
                            ("read 3", "3\nof b\ntwo a\nsame"))

    def test_clashes_of_words_that_are_none_or_have_blanks(self):
        desk = desk_with("open a", "put a 0 x", "put a 1 y", "save a", "open b", "write a 1 ", "write b 1  w ",
                         "take b 2", "write a 2  out", "save a")
        self.assert_answers(desk, ("save b", "save 3 clash 1 clash 2"),
                            ("clashes", "2\n1 in  w \n1 in \n2 in  out\n2 out"))

    def test_reload(self):
        desk = clashing()
        self.assert_answers(desk, ("reload b", "crossed 3"), ("undo b", "ok"), ("reload b", "crossed 2"),
                            ("undo b", "ok"),
                            ("undo b", "ok"), ("reload b", "ok"), ("show b", "3\nof a\ntwo a\nsame"),
                            ("reload a", "ok"),
                            ("again b", "no deed"))

    def test_show_and_read_are_not_the_same(self):
        self.assert_answers(desk_with(*THREE, "save a", "take a 1"), ("show a", "2\ntwo\nthree"),
                            ("read 1", "3\none\ntwo\nthree"))


class SettleTest(DeskCase):

    def settled(self, row):
        desk = clashing()
        desk.say("save b")
        return desk, desk.say(row)

    def test_each_choice(self):
        for row, lines, still in (
            ("settle 1 stay", "3\nof b\ntwo a\nsame", "1\n2 in two a\n2 out"),
            ("settle 1 turn", "3\nof a\ntwo a\nsame", "1\n2 in two a\n2 out"),
            ("settle 1 both", "4\nof b\nof a\ntwo a\nsame", "1\n2 in two a\n2 out"),
            ("settle 2 turn", "2\nof b\nsame", "1\n1 in of b\n1 in of a"),
        ):
            desk, answer = self.settled(row)
            self.assertEqual(answer, "save 4")
            self.assert_answers(desk, ("read 4", lines), ("clashes", still), ("show b", "3\nof b\ntwo a\nsame"))

    def test_refused(self):
        desk, answer = self.settled("settle 1 stay")
        self.assert_answers(
            desk, ("settle 0 stay", "no clash"), ("settle 3 stay", "no clash"), ("settle 9999 none", "no clash"),
            ("settle 2 none", "no choice"), ("settle 2 Stay", "no choice"), ("settle 2 stay\n", "no choice"),
            ("settle 2 \t", "no choice"), ("settle 1 none", "no choice"), ("settle 1 stay", "settled"),
            ("settle 1 both", "settled"), ("settle 2 both", "no both"), ("settle 2 stay", "save 5"),
            ("settle 2 both", "settled"), ("clashes", "0"))

    def test_no_clash_at_first(self):
        self.assert_answers(Desk(), ("clashes", "0"), ("settle 1 stay", "no clash"), ("settle 1 x", "no clash"))


class BackTest(DeskCase):

    def test_back(self):
        desk = desk_with(*THREE, "save a", "take a 1", "save a")
        self.assert_answers(desk, ("back 1", "save 3"), ("read 3", "3\none\ntwo\nthree"), ("show a", "2\ntwo\nthree"),
                            ("back 0", "save 4"), ("read 4", "0"), ("back 4", "save 5"), ("back 6", "no save"),
                            ("back 9999", "no save"), ("reload a", "ok"), ("show a", "0"))

    def test_at_first(self):
        self.assert_answers(Desk(), ("back 1", "no save"), ("back 0", "save 1"), ("read 1", "0"))


class NoRowTest(DeskCase):

    def test_no_row(self):
        desk = clashing()
        before = [desk.say(row) for row in ("show a", "show b", "read 2", "clashes", "unsaved b")]
        for row in NO_ROWS:
            with self.subTest(row):
                self.assert_refused("NoRow", desk.say, row)
        self.assertEqual([desk.say(row) for row in ("show a", "show b", "read 2", "clashes", "unsaved b")], before)
        self.assert_answers(desk, ("save b", "save 3 clash 1 clash 2"))

    def test_ahead_of_no_window(self):
        for row in NO_ROWS:
            self.assert_refused("NoRow", Desk().say, row)

    def test_numbers(self):
        desk = desk_with(*THREE)
        for number, answer in (("0", "no line"), ("4", "no line"), ("10", "no line"), ("100", "no line"),
                               ("1000", "no line"), ("9999", "no line")):
            self.assert_answers(desk, (f"take a {number}", answer))
        for number in ("", "00", "01", "0001", "10000", "99999", "1.0", "1,0", "+1", "-0", "-1", "1e1", "a", "1\n",
                       "\t1", "1_0"):
            self.assert_refused("NoRow", desk.say, f"take a {number}")


class CutTest(DeskCase):

    def test_at_first(self):
        self.assert_answers(Desk(), ("cut", "ok"), ("open a", "ok"), ("cut", "ok"), ("cut", "ok"),
                            ("show a", "no window"),
                            ("open a", "ok"), ("show a", "0"))

    def test_windows_are_closed_and_as_they_were(self):
        desk = clashing()
        self.assert_answers(
            desk, ("undo b", "ok"), ("close a", "ok"), ("cut", "ok"), ("show a", "no window"), ("show b", "no window"),
            ("close b", "no window"), ("open b", "ok"), ("show b", "2\nof b\nthree"), ("unsaved b", "2"),
            ("again b", "ok"), ("show b", "2\nof b\nsame"), ("cut", "ok"), ("open b", "ok"), ("undo b", "ok"),
            ("undo b", "ok"), ("show b", "3\nof b\ntwo\nthree"), ("again b", "ok"), ("again b", "ok"), ("cut", "ok"),
            ("open b", "ok"), ("save b", "save 3 clash 1 clash 2"), ("cut", "ok"),
            ("clashes", "2\n1 in of b\n1 in of a\n2 in two a\n2 out"), ("settle 1 both", "save 4"), ("cut", "ok"),
            ("settle 1 both", "settled"), ("clashes", "1\n2 in two a\n2 out"), ("read 4", "4\nof b\nof a\ntwo a\nsame"),
            ("open a", "ok"), ("show a", "3\nof a\ntwo a\nsame"), ("reload a", "ok"),
            ("show a", "4\nof b\nof a\ntwo a\nsame"))

    def test_at_any_place(self):
        # The same rows with and without cuts between; behind a cut the open windows are opened again.
        for seed in range(40):
            chance = random.Random(seed)
            plain, cut = Desk(), Desk()
            shown = []
            for turn in range(80):
                row = random_row(chance)
                answer = plain.say(row)
                self.assertEqual(cut.say(row), answer)
                word, name = (row.split(" ") + [""])[:2]
                if answer == "ok" and word in ("open", "close"):
                    shown = [each for each in shown if each != name] + [name] * (word == "open")
                if chance.randrange(6) == 0:
                    self.assertEqual(cut.say("cut"), "ok")
                    for each in shown:
                        self.assertEqual(cut.say("show " + each), "no window")
                        self.assertEqual(cut.say("open " + each), "ok")

    def test_two_desks_share_nothing(self):
        one, other = desk_with(*THREE), Desk()
        self.assert_answers(other, ("show a", "no window"), ("open a", "ok"), ("show a", "0"), ("cut", "ok"))
        self.assert_answers(one, ("show a", "3\none\ntwo\nthree"))


def random_row(chance):
    """Any row that is one."""
    name = chance.choice("aab")
    line = lambda: chance.choice((0, 1, 1, 2, 2, 3, 4, 9))
    words = chance.choice(("", "x", " y ", "end", "a\tb", "two words"))
    return chance.choice((
        f"open {name}", f"open {name}", f"close {name}", f"put {name} {line()} {words}", f"put {name} 0 {words}",
        f"put {name} 1 {words}", f"take {name} {line()}", f"move {name} {line()} {line()}",
        f"write {name} {line()} {words}", f"write {name} 1 {words}", f"part {name} {line()} {line()}",
        f"join {name} {line()}", f"carry {name} {line()} {line()} {line()}", f"undo {name}", f"again {name}",
        f"reload {name}", f"save {name}", f"save {name}", f"show {name}", f"read {line()}", f"unsaved {name}",
        "clashes",
        f"settle {line()} {chance.choice(('stay', 'turn', 'both', 'x'))}", f"back {line()}"))


if __name__ == "__main__":
    unittest.main()
