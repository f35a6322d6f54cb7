"""Promises [26], [27] and [28], and [2] as it touches them: the house, its deeds, what it tells, and its records."""

import copy
import random
import unittest

from helper import CHOICES, RefusalCase, act, by_chance, draft_of, house_told, random_act, sheet_of, window_told
from twotabs.changes import changes
from twotabs.house import House
from twotabs.merges import merged
from twotabs.sheets import Sheet

NO_NAMES = ("", "A", "a1", "abcdefghi", "a b", " a", "a ", "a\n", "\t", "a-b", "a.b", "aB")


def texts(lines):
    return [words for mark, words in lines]


def house_of(*names):
    house = House()
    for name in names:
        house.opens(name)
    return house


def two_on_three():
    """A house whose windows a (number 1) and b (2) lie on save 1 with the lines one, two, three; its beat is 7."""
    house = house_of("a", "b")
    for behind, words in ((None, "one"), ((1, 1), "two"), ((1, 2), "three")):
        house.does("a", ("put", behind, words))
    house.save("a")
    house.reload("b")
    return house


A, B, C = (1, 1), (1, 2), (1, 3)
PA = ((0, 1, 1),)
PB = PA + ((0, 1, 2),)
PC = PB + ((0, 1, 3),)


def clashing():
    """Two houses' worth of clashes: a wrote A and took B, b wrote both; both saved. Clash 1 is of A, clash 2 of B."""
    house = two_on_three()
    house.does("a", ("write", A, "of a"))     # beat 8
    house.does("b", ("write", A, "of b"))     # beat 9
    house.does("b", ("write", B, "two b"))    # beat 10
    house.does("a", ("take", B))              # beat 11
    house.save("a")                           # beat 12, save 2
    house.save("b")                           # beat 13, save 3
    return house


class OpenTest(RefusalCase):

    def test_new_house(self):
        house = House()
        self.assertEqual(house_told(house), ([], [], 0, (0, [[]], [[]], [], [], []), [], []))

    def test_a_new_name(self):
        house = House()
        self.assertEqual([house.opens(name) for name in ("b", "a", "abcdefgh", "z")], [1, 2, 3, 4])
        self.assertEqual(house.windows(), [("b", 1, True), ("a", 2, True), ("abcdefgh", 3, True), ("z", 4, True)])
        self.assertEqual(house.beat(), 4)
        self.assertEqual(window_told(house, "z"), ([], 0, [], [], []))

    def test_a_new_one_lies_on_the_newest_save(self):
        house = two_on_three()
        house.does("a", ("put", None, "unsaved"))
        self.assertEqual(house.opens("c"), 3)
        self.assertEqual(window_told(house, "c"), ([(A, "one"), (B, "two"), (C, "three")], 1, [], [], []))
        self.assertEqual(house.does("c", ("put", None, "x")), [(3, 1)])

    def test_a_closed_one_is_as_it_was(self):
        house = clashing()
        house.does("b", ("write", C, "x"))
        house.does("b", ("join", A))
        house.undo("b")
        before = window_told(house, "b")
        self.assertIsNone(house.closes("b"))
        self.assertEqual(house.windows(), [("a", 1, True), ("b", 2, False)])
        house.back(0)
        self.assertEqual(house.opens("b"), 2)
        self.assertEqual(window_told(house, "b")[:3], before[:3])
        self.assertEqual((house.again("b"), house.undo("b"), house.undo("b")), ([A, C], [A, C], [C]))

    def test_opening_again_and_closing_have_no_beat(self):
        house = house_of("a", "b")
        for turn in range(3):
            house.closes("a")
            self.assertEqual((house.beat(), house.opens("a"), house.beat()), (2, 1, 2))
        self.assertEqual(house.slips(), [("a", [("begin", 1, 1, 0)]), ("b", [("begin", 2, 2, 0)])])

    def test_no_name(self):
        house = house_of("a")
        before = house_told(house)
        for name in NO_NAMES:
            self.assert_refused("NoName", house.opens, name)
        self.assertEqual(house_told(house), before)

    def test_opened(self):
        house = house_of("a", "b")
        house.does("a", ("put", None, "x"))
        before = house_told(house)
        for name in ("a", "b"):
            self.assert_refused("Opened", house.opens, name)
        self.assertEqual(house_told(house), before)

    def test_numbers_also_above_closed_windows(self):
        house = house_of("a", "b", "c")
        for name in ("c", "b", "a"):
            house.closes(name)
        self.assertEqual((house.opens("d"), house.opens("c"), house.opens("e"), house.opens("a")), (4, 3, 5, 1))
        self.assertEqual(house.windows(), [
            ("a", 1, True), ("b", 2, False), ("c", 3, True), ("d", 4, True), ("e", 5, True)])

    def test_numbers_above_what_saves_tell(self):
        house = house_of("a", "b")
        house.save("b")
        house.save("a")
        house.back(0)
        self.assertEqual(house.opens("c"), 3)

    def test_closed_twice(self):
        house = house_of("a")
        house.closes("a")
        self.assert_refused("NoWindow", house.closes, "a")


class NoWindowTest(RefusalCase):

    def assert_no_window(self, house, name):
        before = house_told(house)
        for ask in (house.closes, house.undo, house.again, house.reload, house.save, house.lines, house.unsaved,
                    house.would, house.news, house.base):
            self.assert_refused("NoWindow", ask, name)
        for deed in (("put", None, "x"), ("put", (9, 9), "a\tb"), ("take", (9, 9)), ("part", (9, 9), -1),
                     ("carry", C, A, A), ("join", C)):
            self.assert_refused("NoWindow", house.does, name, deed)
        self.assertEqual(house_told(house), before)

    def test_never_there(self):
        for name in ("c", "ab") + NO_NAMES:
            self.assert_no_window(two_on_three(), name)
        self.assert_no_window(House(), "a")

    def test_closed(self):
        house = clashing()
        house.does("b", ("put", None, "x"))
        house.does("b", ("put", None, "y"))
        house.undo("b")
        house.closes("b")
        self.assert_no_window(house, "b")

    def test_closed_with_nothing_to_undo_and_crossed(self):
        # NoDeed and Crossed would be due behind it.
        house = two_on_three()
        house.does("b", ("write", A, "x"))
        house.does("a", ("write", A, "y"))
        house.save("a")
        house.closes("a")
        house.closes("b")
        self.assert_no_window(house, "a")
        self.assert_no_window(house, "b")


class DeedTest(RefusalCase):

    def test_each_deed(self):
        for deed, marks, lines in (
            (("put", A, "x"), [(2, 1)], ["one", "x", "two", "three"]), (("take", B), [B], ["one", "three"]),
            (("move", C, None), [C], ["three", "one", "two"]), (("write", B, ""), [B], ["one", "", "three"]),
            (("part", C, 2), [C, (2, 1)], ["one", "two", "th", "ree"]), (("join", A), [A, B], ["onetwo", "three"]),
            (("carry", A, B, C), [A, B], ["three", "one", "two"]),
        ):
            house = two_on_three()
            told = house.does("b", deed)
            self.assertEqual((told, type(told)), (marks, list))
            self.assertEqual((texts(house.lines("b")), house.unsaved("b"), house.beat()), (lines, marks, 8))
            self.assertEqual(texts(house.lines("a")), ["one", "two", "three"])
            self.assertEqual(house.slips()[1], ("b", [("begin", 2, 2, 0), ("reload", 7, 1), ("deed", 8, deed)]))
            told = house.undo("b")
            self.assertEqual((told, type(told)), (marks, list))
            self.assertEqual((texts(house.lines("b")), house.beat()), (["one", "two", "three"], 9))
            told = house.again("b")
            self.assertEqual((told, type(told)), (marks, list))
            self.assertEqual((texts(house.lines("b")), house.beat()), (lines, 10))
            self.assertEqual(house.slips()[1][1][2:], [("deed", 8, deed), ("undo", 9), ("again", 10)])

    def test_the_beat_of_versions(self):
        house = two_on_three()
        house.does("b", ("write", A, "x"))
        house.does("a", ("write", B, "y"))
        house.undo("b")
        house.again("b")
        house.save("b")
        house.save("a")
        self.assertEqual([house.trail(mark)[-1] for mark in (A, B, C)], [
            (2, (8, PA, "x")), (3, (9, PB, "y")), (1, (5, PC, "three"))])

    def test_refused_ones_have_no_beat_and_no_record(self):
        house = two_on_three()
        before = house_told(house)
        for name, deed in (("NoWords", ("put", A, "\t")), ("NoPiece", ("take", (9, 9))), ("NoPiece", ("move", A, A)),
                           ("NoWords", ("write", (9, 9), "\n")), ("NoCut", ("part", A, 4)), ("NoPiece", ("join", C)),
                           ("NoStretch", ("carry", B, A, None))):
            self.assert_refused(name, house.does, "a", deed)
        self.assert_refused("NoDeed", house.undo, "a")
        self.assert_refused("NoDeed", house.again, "a")
        self.assert_refused("NoSave", house.back, 2)
        self.assert_refused("NoClash", house.settle, 1, "stay")
        self.assertEqual(house_told(house), before)
        self.assertEqual(house.does("a", ("put", None, "x")), [(1, 4)])


class BeatTest(RefusalCase):

    def test_one_more_for_each_deed(self):
        house = House()
        beats = []
        for call, *things in (
            (house.opens, "a"), (house.does, "a", ("put", None, "x")), (house.undo, "a"), (house.again, "a"),
            (house.save, "a"), (house.closes, "a"), (house.opens, "a"), (house.reload, "a"), (house.opens, "b"),
            (house.does, "a", ("write", A, "y")), (house.does, "b", ("write", A, "z")), (house.save, "a"),
            (house.save, "b"), (house.settle, 1, "turn"), (house.back, 0), (house.closes, "b"), (house.opens, "b"),
        ):
            call(*things)
            beats.append(house.beat())
        self.assertEqual(beats, [1, 2, 3, 4, 5, 5, 5, 6, 7, 8, 9, 10, 11, 12, 13, 13, 13])


class ReloadTest(RefusalCase):

    def test_reload(self):
        house = two_on_three()
        house.does("a", ("write", A, "x"))
        house.does("b", ("write", B, "y"))
        house.save("a")
        self.assertEqual((house.base("b"), house.news("b")), (1, [A]))
        self.assertEqual(house.reload("b"), 2)
        self.assertEqual(window_told(house, "b"), ([(A, "x"), (B, "y"), (C, "three")], 2, [B], [], []))
        self.assertEqual((house.beat(), house.slips()[1][1][-1]), (11, ("reload", 11, 2)))
        self.assertEqual(house.undo("b"), [B])

    def test_on_the_same_base(self):
        house = two_on_three()
        house.does("b", ("write", B, "y"))
        house.undo("b")
        self.assertEqual(house.reload("b"), 1)
        self.assert_refused("NoDeed", house.again, "b")
        self.assertEqual((house.beat(), house.slips()[1][1][-1]), (10, ("reload", 10, 1)))

    def test_crossed(self):
        house = two_on_three()
        house.does("a", ("write", B, "x"))
        house.does("a", ("take", A))
        house.does("b", ("join", A))
        house.does("b", ("write", C, "z"))
        house.undo("b")
        house.save("a")
        before = house_told(house)
        error = self.assert_refused("Crossed", house.reload, "b")
        self.assertEqual(error.marks, [A, B])
        error.marks.clear()
        self.assertEqual(self.assert_refused("Crossed", house.reload, "b").marks, [A, B])
        self.assertEqual(house_told(house), before)
        self.assertEqual(house.again("b"), [C])


class SaveTest(RefusalCase):

    def test_without_clashes(self):
        house = two_on_three()
        house.does("a", ("write", A, "x"))
        house.does("b", ("take", B))
        house.does("b", ("put", C, "y"))
        self.assertEqual(house.save("b"), (2, []))
        self.assertEqual(house.save("a"), (3, []))
        self.assertEqual([texts(house.read(save)) for save in range(4)], [
            [], ["one", "two", "three"], ["one", "three", "y"], ["x", "three", "y"]])
        self.assertEqual(window_told(house, "a"), ([(A, "x"), (C, "three"), ((2, 2), "y")], 3, [], [], []))
        self.assertEqual(window_told(house, "b"), ([(A, "one"), (C, "three"), ((2, 2), "y")], 2, [], [], [A]))
        for name in ("a", "b"):
            self.assert_refused("NoDeed", house.undo, name)
            self.assert_refused("NoDeed", house.again, name)

    def test_nothing_unsaved(self):
        house = two_on_three()
        self.assertEqual(house.save("b"), (2, []))
        self.assertEqual(house.save("b"), (3, []))
        self.assertEqual(house.records()[1:], [(("save", 8, 2, 0), [], []), (("save", 9, 2, 0), [], [])])
        self.assertEqual((house.base("b"), house.base("a"), house.news("a")), (3, 1, []))

    def test_nothing_unsaved_behind_others(self):
        house = two_on_three()
        house.does("a", ("write", A, "x"))
        house.save("a")
        self.assertEqual(house.save("b"), (3, []))
        self.assertEqual(texts(house.lines("b")), ["x", "two", "three"])

    def test_the_first_save_of_an_empty_house(self):
        house = house_of("a")
        self.assertEqual(house.save("a"), (1, []))
        self.assertEqual((house.read(1), house.records()), ([], [(("save", 2, 1, 0), [], [])]))

    def test_undone_deeds_are_not_saved_but_counted(self):
        house = two_on_three()
        house.does("b", ("put", None, "x"))
        house.does("b", ("put", None, "y"))
        house.undo("b")
        house.save("b")
        self.assertEqual(house.records()[1], (("save", 11, 2, 2), [((2, 1), (8, ((-1, 2, 1),), "x"))], []))
        self.assertEqual(house.does("b", ("put", None, "z")), [(2, 3)])

    def test_clashes(self):
        house = clashing()
        self.assertEqual(house.newest(), 3)
        self.assertEqual(house.read(2), [(A, "of a"), (C, "three")])
        self.assertEqual(house.read(3), [(A, "of b"), (C, "three")])
        self.assertEqual(house.all_told(), [
            (1, A, (9, PA, "of b"), (8, PA, "of a"), 3, ""), (2, B, (11, (), ""), (10, PB, "two b"), 3, "")])
        self.assertEqual((house.still(), house.clash(2)), ([1, 2], house.all_told()[1]))
        self.assertEqual((house.lines("b"), house.base("b"), house.unsaved("b")), (house.read(3), 3, []))

    def test_the_numbers_of_clashes_go_on(self):
        house = two_on_three()
        house.opens("c")
        for name in ("a", "b", "c"):
            house.does(name, ("write", A, "of " + name))
            house.does(name, ("write", C, "too of " + name))
        told = [house.save(name) for name in ("b", "c", "a")]
        self.assertEqual(told, [(2, []), (3, [1, 2]), (4, [3, 4])])
        self.assertEqual([type(numbers) for save, numbers in told], [list] * 3)
        self.assertEqual([(clash[1], clash[2][2], clash[3][2], clash[4]) for clash in house.all_told()], [
            (A, "of c", "of b", 3), (C, "too of c", "too of b", 3),
            (A, "of c", "of a", 4), (C, "too of c", "too of a", 4)])

    def test_alike_is_no_clash(self):
        house = two_on_three()
        for name in ("a", "b"):
            house.does(name, ("write", A, "same"))
            house.does(name, ("take", B))
        self.assertEqual((house.save("b"), house.save("a")), ((2, []), (3, [])))
        self.assertEqual(house.trail(A)[1:], [(2, (10, PA, "same"))])

    def test_with_what_was_settled_or_gone_back_to(self):
        house = two_on_three()
        house.does("a", ("write", A, "x"))
        house.back(0)
        self.assertEqual(house.would("a"), [(A, (9, (), ""), (8, PA, "x"))])
        self.assertEqual(house.save("a"), (3, [1]))
        self.assertEqual((house.read(3), house.lines("a")), ([], []))

    def test_the_base_is_that_of_the_window(self):
        # b saw what a saved, so its own writing of the same piece is no clash.
        house = two_on_three()
        house.does("a", ("write", A, "x"))
        house.save("a")
        house.reload("b")
        house.does("b", ("write", A, "y"))
        self.assertEqual(house.save("b"), (3, []))


class SettleTest(RefusalCase):

    def test_each_choice(self):
        both = PA + ((-1, 0, 1),)
        for choice, pieces, lines in (
            ("stay", [], ["of b", "three"]), ("turn", [(A, (14, PA, "of a"))], ["of a", "three"]),
            ("both", [((0, 1), (14, both, "of a"))], ["of b", "of a", "three"]),
        ):
            house = clashing()
            windows = [window_told(house, name) for name in ("a", "b")]
            self.assertEqual(house.settle(1, choice), 4)
            self.assertEqual((texts(house.read(4)), house.newest(), house.beat()), (lines, 4, 14))
            self.assertEqual(house.records()[-1], (("settle", 14, 1, choice), pieces, []))
            self.assertEqual((house.clash(1)[5], house.still()), (choice, [2]))
            for name, before in zip(("a", "b"), windows):
                self.assertEqual(window_told(house, name)[:3], before[:3])
            self.assertEqual(house.news("b"), [mark for mark, version in pieces])
            self.assertEqual(house.opens("c"), 3)

    def test_on_the_newest_sheet(self):
        house = clashing()
        house.does("a", ("put", None, "later"))
        house.save("a")
        self.assertEqual(house.settle(2, "turn"), 5)
        self.assertEqual(texts(house.read(5)), ["later", "of b", "two b", "three"])
        self.assertEqual(house.settle(1, "both"), 6)
        self.assertEqual(texts(house.read(6)), ["later", "of b", "of a", "two b", "three"])
        self.assertEqual(house.still(), [])

    def test_refused(self):
        house = clashing()
        house.does("a", ("take", C))
        house.does("b", ("write", C, "x"))
        house.save("b")
        house.save("a")
        self.assertEqual(house.clash(3)[2:4], ((15, PC, "x"), (14, (), "")))
        house.settle(1, "stay")
        before = house_told(house)
        for number in (0, -1, 4):
            for choice in CHOICES + ("", "none"):
                self.assert_refused("NoClash", house.settle, number, choice)
        for number in (1, 2, 3):
            self.assert_refused("NoChoice", house.settle, number, "none")
        for choice in CHOICES:
            self.assert_refused("Settled", house.settle, 1, choice)
        self.assert_refused("NoBoth", house.settle, 3, "both")
        self.assertEqual(house_told(house), before)
        house.settle(3, "turn")
        self.assert_refused("Settled", house.settle, 3, "both")
        self.assert_refused("NoChoice", house.settle, 3, "")

    def test_a_settled_piece_is_news_and_crosses(self):
        house = clashing()
        house.does("b", ("write", A, "mine"))
        house.settle(1, "turn")
        self.assertEqual(house.news("b"), [A])
        self.assertEqual(house.would("b"), [(A, (15, PA, "of a"), (14, PA, "mine"))])
        self.assertEqual(self.assert_refused("Crossed", house.reload, "b").marks, [A])


class BackTest(RefusalCase):

    def test_back(self):
        house = clashing()
        windows = [window_told(house, name)[:3] for name in ("a", "b")]
        self.assertEqual(house.back(1), 4)
        self.assertEqual(house.read(4), house.read(1))
        self.assertEqual(house.records()[-1], (("back", 14, 1), [(A, (14, PA, "one")), (B, (14, PB, "two"))], []))
        self.assertEqual(house.back(0), 5)
        self.assertEqual(house.read(5), [])
        self.assertEqual(house.records()[-1], (("back", 15, 0), [(mark, (15, (), "")) for mark in (A, B, C)], []))
        self.assertEqual(house.back(5), 6)
        self.assertEqual(house.records()[-1], (("back", 16, 5), [], []))
        self.assertEqual([window_told(house, name)[:3] for name in ("a", "b")], windows)
        self.assertEqual((house.beat(), house.still()), (16, [1, 2]))

    def test_no_save(self):
        house = clashing()
        before = house_told(house)
        for save in (-1, 4, 5, 10 ** 40):
            self.assert_refused("NoSave", house.back, save)
        self.assertEqual(house_told(house), before)

    def test_in_a_new_house(self):
        house = House()
        self.assertEqual((house.back(0), house.records()), (1, [(("back", 1, 0), [], [])]))
        self.assertEqual(house.opens("a"), 1)


class ToldTest(RefusalCase):

    def test_would_and_news(self):
        house = two_on_three()
        house.does("a", ("write", A, "of a"))
        house.does("a", ("write", C, "c of a"))
        house.does("b", ("write", A, "of b"))
        self.assertEqual((house.would("b"), house.news("b"), house.would("a"), house.news("a")), ([], [], [], []))
        house.save("a")
        self.assertEqual(house.would("b"), [(A, (10, PA, "of b"), (8, PA, "of a"))])
        self.assertEqual((house.news("b"), house.news("a"), house.would("a")), ([A, C], [], []))
        house.undo("b")
        self.assertEqual((house.would("b"), house.news("b")), ([], [A, C]))
        house.again("b")
        told = house.would("b")
        self.assertEqual((type(told), [type(clash) for clash in told]), (list, [tuple]))
        beat = house.beat()
        self.assertEqual(house.save("b"), (3, [1]))
        self.assertEqual([clash[1:4] for clash in house.all_told()], told)
        self.assertEqual((house.would("b"), house.news("b"), house.news("a")), ([], [], [A]))
        self.assertEqual(house.beat(), beat + 1)

    def test_news_of_pieces_that_come_and_of_versions_alike(self):
        house = two_on_three()
        house.does("a", ("write", B, "two"))
        house.does("a", ("put", C, "new"))
        house.save("a")
        self.assertEqual(house.news("b"), [B, (1, 5)])

    def test_asking_does_nothing(self):
        house = clashing()
        house.does("b", ("write", A, "x"))
        before = house_told(house)
        for turn in range(3):
            self.assertEqual(house_told(house), before)

    def test_saves(self):
        house = clashing()
        self.assertEqual(house.since(3), [(A, 3), (C, 1)])
        self.assertEqual(house.trail(A), [(1, (3, PA, "one")), (2, (8, PA, "of a")), (3, (9, PA, "of b"))])
        self.assertEqual(house.trail(B), [(1, (4, PB, "two")), (2, (11, (), ""))])
        self.assertEqual(house.trail((9, 9)), [])
        for save in (-1, 4, 10 ** 40):
            self.assert_refused("NoSave", house.read, save)
            self.assert_refused("NoSave", house.since, save)
        for number in (0, -1, 3):
            self.assert_refused("NoClash", house.clash, number)

    def test_windows(self):
        house = clashing()
        house.closes("a")
        self.assertEqual(house.windows(), [("a", 1, False), ("b", 2, True)])
        self.assertEqual({type(each) for each in house.windows()}, {tuple})


class RecordsTest(RefusalCase):

    def test_slips(self):
        house = two_on_three()
        house.does("b", ("carry", A, B, C))
        house.undo("b")
        house.again("b")
        house.save("b")
        house.closes("b")
        house.opens("b")
        house.opens("c")
        house.does("c", ("part", A, 1))
        self.assertEqual(house.slips(), [
            ("a", [("begin", 1, 1, 0), ("deed", 3, ("put", None, "one")), ("deed", 4, ("put", A, "two")),
                   ("deed", 5, ("put", B, "three"))]),
            ("b", [("begin", 2, 2, 0), ("reload", 7, 1), ("deed", 8, ("carry", A, B, C)), ("undo", 9), ("again", 10)]),
            ("c", [("begin", 12, 3, 2), ("deed", 13, ("part", A, 1))]),
        ])

    def test_records(self):
        house = clashing()
        house.settle(2, "turn")
        house.back(2)
        self.assertEqual(house.records(), [
            (("save", 6, 1, 3), [(A, (3, PA, "one")), (B, (4, PB, "two")), (C, (5, PC, "three"))], []),
            (("save", 12, 1, 5), [(A, (8, PA, "of a")), (B, (11, (), ""))], []),
            (("save", 13, 2, 2), [(A, (9, PA, "of b"))], [(A, (8, PA, "of a")), (B, (10, PB, "two b"))]),
            (("settle", 14, 2, "turn"), [(B, (14, PB, "two b"))], []),
            (("back", 15, 2), [(A, (15, PA, "of a")), (B, (15, (), ""))], []),
        ])

    def test_kinds(self):
        house = clashing()
        for record in house.records():
            self.assertEqual([type(each) for each in (record,) + record], [tuple, tuple, list, list])
        for slip in house.slips():
            self.assertEqual([type(each) for each in (slip,) + slip], [tuple, str, list])

    def test_in_their_order_by_chance(self):
        # What is written down tells each save's sheet and clashes, reckoned here by themselves.
        for seed in range(40):
            house = by_chance(seed, 80, ("a", "b", "c"))
            sheet, told = Sheet([]), []
            for save, (head, pieces, asides) in enumerate(house.records(), 1):
                new = sheet.given(pieces)
                self.assertEqual([(mark, now) for mark, was, now in changes(sheet, new)], pieces)
                self.assertEqual(new.lines(), house.read(save))
                told += [(mark, new.version(mark), aside, save) for mark, aside in asides]
                sheet = new
            self.assertEqual([clash[1:5] for clash in house.all_told()], told)
            beats = [head[1] for head, pieces, asides in house.records()]
            beats += [note[1] for name, notes in house.slips() for note in notes]
            self.assertEqual(sorted(beats), list(range(1, house.beat() + 1)))


class MergeTest(RefusalCase):
    """A save is the merging of [19], whatever came ahead."""

    def test_by_chance(self):
        saves = 0
        for seed in range(40):
            chance, house = random.Random(seed), House()
            for turn in range(80):
                deed = random_act(chance, house, ("a", "b", "c"))
                if deed[0] != "save":
                    act(house, deed)
                    continue
                name = deed[1]
                base, last = sheet_of(house, house.base(name)), sheet_of(house, house.newest())
                mine = draft_of(house, name)
                new, clashes = merged(base, last, mine)
                self.assertEqual(house.would(name), clashes)
                save, numbers = house.save(name)
                saves += 1
                self.assertEqual(sheet_of(house, save).pairs(), new.pairs())
                self.assertEqual([house.clash(number)[1:5] for number in numbers],
                                 [clash + (save,) for clash in clashes])
                self.assertEqual((house.base(name), house.unsaved(name), house.lines(name)), (save, [], new.lines()))
        self.assertGreater(saves, 100)


class OwnListsTest(RefusalCase):

    def setUp(self):
        self.house = clashing()
        self.house.does("b", ("write", A, "x"))
        self.house.does("a", ("write", A, "y"))
        self.house.save("a")
        self.house.does("a", ("put", None, "z"))

    def test_lists_told(self):
        house = self.house
        before = copy.deepcopy(house_told(house))
        asks = [(house.lines, "b"), (house.unsaved, "b"), (house.would, "b"), (house.news, "b"), (house.windows,),
                (house.read, 1), (house.since, 1), (house.trail, A), (house.all_told,), (house.still,),
                (house.records,), (house.slips,)]
        for ask, *things in asks:
            told = ask(*things)
            self.assertIs(type(told), list)
            self.assertNotEqual(told, [])
            told[0] = None
            told.append(None)
            ask(*things).clear()
            self.assertEqual(house_told(house), before)

    def test_lists_within_lists(self):
        house = self.house
        before = copy.deepcopy(house_told(house))
        for head, pieces, asides in house.records():
            pieces.append(None)
            asides.append(None)
            pieces[0] = None
        for name, notes in house.slips():
            notes.reverse()
            notes.append(None)
        self.assertEqual(house_told(house), before)

    def test_lists_that_deeds_tell(self):
        house = self.house
        house.does("b", ("join", A)).clear()
        house.undo("b").append(None)
        house.again("b").clear()
        before = copy.deepcopy(house_told(house))
        self.assertEqual(house.unsaved("b"), [A, C])
        save, numbers = house.save("b")
        self.assertNotEqual(numbers, [])
        told = house.all_told()
        numbers.clear()
        self.assertEqual(house.all_told(), told)
        self.assertNotEqual(house_told(house), before)

    def test_lists_told_ahead_stay(self):
        house = self.house
        told = house_told(house)
        kept = repr(told)
        house.save("b")
        house.settle(1, "both")
        house.back(1)
        house.does("a", ("put", None, "more"))
        house.opens("c")
        house.closes("a")
        self.assertEqual(repr(told), kept)

    def test_two_houses_share_nothing(self):
        other = House()
        self.assertEqual(house_told(other), house_told(House()))
        before = copy.deepcopy(house_told(self.house))
        other.opens("b")
        other.does("b", ("put", None, "x"))
        other.save("b")
        self.assertEqual(house_told(self.house), before)


if __name__ == "__main__":
    unittest.main()
