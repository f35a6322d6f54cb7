"""Promise [29], with the records of [28], and [2] as it touches them: a house built again."""

import copy
import random
import unittest

from helper import RefusalCase, act, book_told, by_chance, house_told, random_act, window_told
from twotabs.built import built
from twotabs.house import House

A, B, C = (1, 1), (1, 2), (1, 3)
PA = ((0, 1, 1),)
PB = PA + ((0, 1, 2),)
NAMES = ("a", "b", "c", "d")


def opened(house):
    """The house with all its windows open."""
    for name, number, is_open in house.windows():
        if not is_open:
            house.opens(name)
    return house


def all_told(house):
    """All that a house tells, whether its windows are open or closed; they are open behind it."""
    windows = [(name, number) for name, number, is_open in house.windows()]
    before = (windows, house.beat(), book_told(house), house.records(), house.slips())
    opened(house)
    return before + ([window_told(house, name) for name, number in windows],)


def undone_and_done(house, name):
    """What undoing tells down to the first deed, and doing again up to the last."""
    told = []
    for call in (house.undo, house.again):
        while True:
            try:
                told.append((call(name), house.lines(name)))
            except ValueError:
                break
    return told


class AgainTest(RefusalCase):

    def test_no_records(self):
        house = built([], [])
        self.assertIsInstance(house, House)
        self.assertEqual(house_told(house), house_told(House()))
        self.assertEqual((house.opens("a"), house.beat()), (1, 1))

    def test_all_that_it_tells(self):
        clashes = 0
        for seed in range(60):
            house = by_chance(seed, 150, NAMES)
            clashes += len(house.all_told())
            anew = built(house.records(), house.slips())
            self.assertEqual([is_open for name, number, is_open in anew.windows()], [False] * len(house.windows()))
            self.assertEqual(all_told(anew), all_told(house))
        self.assertGreater(clashes, 60)

    def test_slips_in_any_order(self):
        for seed in range(30):
            house, chance = by_chance(seed, 60, NAMES), random.Random(seed)
            slips = house.slips()
            told = all_told(house)
            for turn in range(4):
                chance.shuffle(slips)
                self.assertEqual(all_told(built(house.records(), slips)), told)

    def test_undoing_and_doing_again(self):
        steps = 0
        for seed in range(60):
            house = opened(by_chance(seed, 90, NAMES))
            anew = opened(built(house.records(), house.slips()))
            for name, number, is_open in house.windows():
                told = undone_and_done(house, name)
                steps += len(told)
                self.assertEqual(undone_and_done(anew, name), told)
        self.assertGreater(steps, 500)

    def test_it_goes_on_as_the_first_one_does(self):
        for seed in range(40):
            house, chance = opened(by_chance(seed, 60, NAMES)), random.Random(seed + 1000)
            anew = opened(built(house.records(), house.slips()))
            for turn in range(60):
                deed = random_act(chance, house, NAMES + ("e",))
                self.assertEqual(act(anew, deed), act(house, deed))
                self.assertEqual(house_told(anew), house_told(house))

    def test_refusals_go_on_too(self):
        house = House()
        house.opens("a")
        house.does("a", ("put", None, "x"))
        house.save("a")
        anew = built(house.records(), house.slips())
        self.assert_refused("NoWindow", anew.lines, "a")
        anew.opens("a")
        self.assert_refused("Opened", anew.opens, "a")
        self.assert_refused("NoDeed", anew.undo, "a")
        self.assert_refused("NoDeed", anew.again, "a")
        self.assert_refused("NoSave", anew.read, 2)
        self.assert_refused("NoClash", anew.settle, 1, "stay")
        self.assertEqual(anew.does("a", ("put", None, "y")), [(1, 2)])


class SlipsTest(RefusalCase):

    def test_a_slip_without_records(self):
        for name in ("a", "", "No Name", "a\n", "abcdefghi"):
            house = built([], [(name, []), (name, [])])
            self.assertEqual((house.windows(), house.slips(), house.beat()), ([], [], 0))
        house = built([], [("a", []), ("a", [("begin", 1, 1, 0)]), ("a", [])])
        self.assertEqual((house.windows(), house.slips()), ([("a", 1, False)], [("a", [("begin", 1, 1, 0)])]))

    def test_what_lies_behind_the_last_save(self):
        records = [(("save", 4, 1, 2), [(A, (2, PA, "x"))], []), (("save", 8, 1, 7), [(A, (5, PA, "y"))], [])]
        # Ahead of its last save nothing is done, whether it could be or not.
        notes = [("begin", 1, 1, 0), ("undo", 2), ("deed", 5, ("take", (9, 9))), ("again", 6), ("reload", 7, 1),
                 ("deed", 9, ("write", A, "z")), ("deed", 10, ("put", None, "new"))]
        house = built(records, [("a", notes)])
        self.assertEqual((house.opens("a"), house.base("a"), house.unsaved("a")), (1, 2, [A, (1, 9)]))
        self.assertEqual(house.lines("a"), [((1, 9), "new"), (A, "z")])
        self.assertEqual((house.undo("a"), house.undo("a")), ([(1, 9)], [A]))
        self.assert_refused("NoDeed", house.undo, "a")
        self.assertEqual((house.lines("a"), house.beat()), ([(A, "y")], 12))
        self.assertEqual(house.does("a", ("put", None, "w")), [(1, 10)])

    def test_nothing_behind_the_last_save(self):
        house = built([(("save", 4, 1, 2), [(A, (2, PA, "x"))], [])], [("a", [("begin", 1, 1, 0)])])
        house.opens("a")
        self.assertEqual(window_told(house, "a"), ([(A, "x")], 1, [], [], []))
        self.assertEqual((house.beat(), house.does("a", ("put", None, "w"))), (4, [(1, 3)]))

    def test_a_book_without_its_slips(self):
        records = [(("save", 4, 5, 2), [((5, 1), (2, PA, "x"))], []), (("save", 6, 3, 2), [], [])]
        house = built(records, [])
        self.assertEqual((house.windows(), house.read(2), house.beat()), ([], [((5, 1), "x")], 6))
        # The number is above all that saves tell, so no mark comes twice.
        self.assertEqual((house.opens("a"), house.opens("b")), (6, 7))
        self.assertEqual(house.slips()[0], ("a", [("begin", 7, 6, 2)]))

    def test_numbers_above_all_windows(self):
        house = built([(("save", 4, 2, 0), [], [])], [("z", [("begin", 3, 9, 0)]), ("y", [("begin", 1, 4, 0)])])
        self.assertEqual(house.windows(), [("y", 4, False), ("z", 9, False)])
        self.assertEqual((house.opens("a"), house.opens("y"), house.beat()), (10, 4, 5))

    def test_the_beat_is_the_greatest_of_all(self):
        for records, slips, beat in (
            ([(("save", 9, 1, 0), [], [])], [("a", [("begin", 2, 1, 0)])], 9),
            ([(("save", 5, 1, 0), [], [])], [("a", [("begin", 2, 1, 0), ("reload", 30, 1)]),
                                             ("b", [("begin", 20, 2, 0)])], 30),
            ([], [("a", [("begin", 7, 1, 0)]), ("b", [("begin", 3, 2, 0)])], 7),
        ):
            house = built(records, slips)
            self.assertEqual(house.beat(), beat)
            self.assertEqual((house.back(0), house.records()[-1][0]), (len(records) + 1, ("back", beat + 1, 0)))

    def test_begun_on_and_reloaded_an_older_save(self):
        # That it was not the newest one then breaks no clause.
        records = [(("save", 2, 7, 0), [(A, (1, PA, "x"))], []), (("save", 3, 7, 0), [(B, (2, PB, "y"))], []),
                   (("save", 4, 7, 0), [(C, (3, PA, "z"))], [])]
        house = built(records, [("a", [("begin", 5, 1, 1), ("reload", 6, 2), ("reload", 7, 2)])])
        house.opens("a")
        self.assertEqual(window_told(house, "a"), ([(A, "x"), (B, "y")], 2, [], [], [C]))


class TakenTest(RefusalCase):
    """Records are taken as they are told, unless a clause is broken."""

    def test_unlike_what_would_be_reckoned(self):
        records = [
            (("save", 4, 1, 9), [(A, (4, PA, "x")), (B, (2, PB, "y"))], []),
            (("save", 6, 2, 0), [(A, (5, PA, "xx"))], [(A, (4, PA, "x")), (B, (1, PB, "w"))]),
            (("settle", 8, 2, "stay"), [(B, (7, PA, "other"))], []),
            (("settle", 9, 1, "turn"), [], []),
            (("back", 12, 0), [(A, (11, PB, "kept")), (C, (2, PA, "new"))], []),
        ]
        house = built(records, [])
        self.assertEqual(house.records(), records)
        self.assertEqual([house.read(save) for save in range(6)], [
            [], [(A, "x"), (B, "y")], [(A, "xx"), (B, "y")], [(A, "xx"), (B, "other")], [(A, "xx"), (B, "other")],
            [(B, "other"), (C, "new"), (A, "kept")]])
        self.assertEqual(house.all_told(), [(1, A, (5, PA, "xx"), (4, PA, "x"), 2, "turn"),
                                            (2, B, (2, PB, "y"), (1, PB, "w"), 2, "stay")])
        self.assertEqual((house.beat(), house.still()), (12, []))
        self.assertEqual(house.trail(A), [(1, (4, PA, "x")), (2, (5, PA, "xx")), (5, (11, PB, "kept"))])

    def test_a_save_tells_its_window_and_count(self):
        records = [(("save", 4, 6, 3), [], []), (("back", 5, 0), [], [])]
        house = built(records, [("a", [("begin", 1, 6, 0), ("deed", 2, ("put", None, "x"))])])
        self.assertEqual((house.opens("a"), house.base("a"), house.lines("a")), (6, 1, []))
        self.assertEqual(house.does("a", ("put", None, "y")), [(6, 4)])

    def test_a_settling_and_a_going_back_are_of_no_window(self):
        records = [(("back", 3, 0), [], []), (("save", 4, 2, 0), [(A, (2, PA, "x"))], [(A, (1, PA, "w"))]),
                   (("settle", 5, 1, "stay"), [], []), (("back", 7, 3), [], [])]
        # Were they taken for the window's own, its put would be left out.
        house = built(records, [("a", [("begin", 1, 3, 0), ("deed", 2, ("put", None, "mine"))]),
                                ("b", [("begin", 6, 1, 3)])])
        opened(house)
        self.assertEqual((house.lines("a"), house.base("a"), house.base("b")), ([((3, 1), "mine")], 0, 3))


# A book with a clash and its settling, and two slips, of which each clause of [29] is broken once.
RECORDS = [
    (("save", 4, 1, 1), [(A, (3, PA, "x")), (B, (2, PB, "y"))], []),
    (("save", 8, 2, 2), [(A, (6, PA, "xx")), (B, (7, PB, "yy"))], [(A, (5, PA, "w")), (B, (6, (), ""))]),
    (("settle", 10, 1, "turn"), [(A, (10, PA, "w"))], []),
    (("back", 12, 1), [(A, (12, PA, "x"))], []),
]
SLIPS = [
    ("a", [("begin", 1, 1, 0), ("reload", 3, 0), ("reload", 9, 2), ("deed", 11, ("write", B, "z")),
           ("deed", 13, ("put", None, "new")), ("undo", 14), ("again", 15), ("undo", 16)]),
    ("b", [("begin", 2, 2, 0), ("deed", 5, ("put", None, "q")), ("reload", 6, 1), ("reload", 17, 4)]),
]


def changed(at, thing, records=True):
    """The records, or the first slip's, with another thing at a place."""
    things = list(RECORDS if records else SLIPS[0][1])
    things[at] = thing
    return (things, SLIPS) if records else (RECORDS, [("a", things), SLIPS[1]])


def more(*notes):
    """The slips with records more behind the first one's."""
    return (RECORDS, [("a", SLIPS[0][1] + list(notes)), SLIPS[1]])


class NoBuiltTest(RefusalCase):

    def assert_no_built(self, *cases):
        for records, slips in cases:
            with self.subTest((records, slips)):
                kept = copy.deepcopy((records, slips))
                self.assert_refused("NoBuilt", built, records, slips)
                self.assertEqual((records, slips), kept)

    def test_the_unbroken_one(self):
        house = built(RECORDS, SLIPS)
        self.assertEqual((house.records(), house.slips(), house.beat()), (RECORDS, SLIPS, 17))
        opened(house)
        self.assertEqual((house.base("a"), house.unsaved("a"), house.base("b")), (2, [B], 4))
        self.assertEqual(built(*more(("again", 18), ("undo", 19))).beat(), 19)

    def test_beats_of_the_book(self):
        for beat in (0, -1):
            self.assert_no_built(([(("save", beat, 1, 0), [], [])], []), ([(("back", beat, 0), [], [])], []))
        self.assert_no_built(
            changed(0, (("save", 9, 1, 1), [], [])), changed(1, (("save", 4, 2, 2), [], [])),
            changed(3, (("back", 10, 1), [], [])), changed(3, (("back", 7, 1), [], [])),
            (RECORDS + [(("back", 12, 1), [], [])], SLIPS), (RECORDS + [RECORDS[-1]], SLIPS))

    def test_beats_of_a_slip(self):
        self.assert_no_built(
            ([], [("a", [("begin", 0, 1, 0)])]), ([], [("a", [("begin", -3, 1, 0)])]),
            ([], [("a", [("begin", 3, 1, 0), ("reload", 3, 0)])]),
            ([], [("a", [("begin", 3, 1, 0), ("reload", 2, 0)])]),
            more(("again", 16)), more(("again", 10)), changed(1, ("reload", 1, 0), False))

    def test_a_beat_twice_in_all(self):
        self.assert_no_built(
            changed(1, ("reload", 2, 0), False), changed(1, ("reload", 4, 0), False), more(("again", 17)),
            (RECORDS + [(("back", 15, 1), [], [])], SLIPS), (RECORDS, SLIPS + [("c", [("begin", 4, 3, 0)])]),
            ([], [("a", [("begin", 1, 1, 0)]), ("b", [("begin", 1, 2, 0)])]))
        # Also where the record lies ahead of the window's last save.
        self.assert_no_built((RECORDS, [SLIPS[0], ("b", [("begin", 2, 2, 0), ("undo", 4)])]))

    def test_marks_that_do_not_rise(self):
        version = (3, PA, "x")
        for pieces in ([(B, version), (A, version)], [(A, version), (A, version)], [(A, version), (A, (4, PA, "y"))],
                       [((2, 1), version), ((1, 9), version)], [((1, 10), version), ((1, 9), version)]):
            self.assert_no_built(([(("save", 4, 1, 1), pieces, [])], []), ([(("back", 4, 0), pieces, [])], []))
        whole = [(A, (5, PA, "x")), (B, (5, PB, "y"))]
        for asides in ([(B, (1, PB, "")), (A, (1, PA, ""))], [(A, (1, PA, "")), (A, (2, PA, ""))]):
            self.assert_no_built(([(("save", 8, 1, 1), whole, asides)], []))

    def test_beats_of_pieces(self):
        for head in (("save", 8, 1, 1), ("back", 8, 0)):
            self.assert_no_built(([(head, [(A, (9, PA, "x"))], [])], []), ([(head, [(A, (99, (), ""))], [])], []))
            built([(head, [(A, (8, PA, "x"))], [])], [])
        ahead = (("save", 4, 1, 1), [(A, (3, PA, "x"))], [])
        for beat in (3, 2, 1):
            for place, words in ((PA, "x"), (PB, "y"), ((), "")):
                self.assert_no_built(([ahead, (("save", 8, 1, 1), [(A, (beat, place, words))], [])], []))
        # The version may be many saves older.
        self.assert_no_built(([ahead, (("back", 5, 0), [], []), (("back", 8, 0), [(A, (3, PA, "y"))], [])], []))
        built([ahead, (("save", 8, 1, 1), [(A, (4, PA, "x"))], [])], [])

    def test_asides(self):
        whole = [(A, (5, PA, "x"))]
        for head in (("back", 8, 0), ("settle", 8, 1, "stay")):
            ahead = (("save", 6, 1, 0), [(A, (4, PA, "v"))], [(A, (3, PA, "u"))])
            built([ahead, (head, whole, [])], [])
            self.assert_no_built(([ahead, (head, whole, [(A, (2, PA, "w"))])], []))
        head = ("save", 8, 1, 1)
        for asides in ([(B, (2, PA, "w"))], [(A, (5, PA, "w"))], [(A, (6, PA, "w"))], [(A, (5, PA, "x"))],
                       [(A, (2, PA, "w")), (B, (2, PA, "w"))]):
            self.assert_no_built(([(head, whole, asides)], []))
        built([(head, whole, [(A, (4, PA, "x"))])], [])

    def test_saves_that_are_not_there(self):
        for save in (-1, 4, 5, 10 ** 40):
            self.assert_no_built(changed(3, (("back", 12, save), [], [])))
        for save in (-1, 5, 10 ** 40):
            self.assert_no_built(
                (RECORDS, [("c", [("begin", 20, 9, save)])]), more(("reload", 20, save)),
                changed(1, ("reload", 3, save), False))
        self.assert_no_built(([], [("a", [("begin", 1, 1, 1)])]), ([(("back", 1, 1), [], [])], []))

    def test_saves_that_come_later(self):
        # Save 1 has beat 4, save 3 beat 10.
        self.assert_no_built(
            (RECORDS, [SLIPS[0], ("b", [("begin", 2, 2, 1)])]), changed(2, ("reload", 9, 3), False),
            (RECORDS, [SLIPS[0], ("b", [("begin", 2, 2, 0), ("reload", 6, 2)])]),
            changed(1, ("reload", 3, 1), False))
        built(RECORDS, [SLIPS[0], ("b", [("begin", 2, 2, 0), ("reload", 5, 1)])])

    def test_settlings(self):
        last = (("back", 14, 1), [], [])
        for number, choice in ((0, "stay"), (-1, "stay"), (3, "stay"), (10 ** 40, "stay"), (1, "stay"), (1, "both"),
                               (2, "none"), (2, ""), (2, "both")):
            self.assert_no_built((RECORDS + [(("settle", 30, number, choice), [], [])], []))
        built(RECORDS + [(("settle", 30, 2, "turn"), [], [])], [])
        # A clash that a later save tells is not told yet.
        self.assert_no_built(([RECORDS[0], (("settle", 5, 1, "stay"), [], []), RECORDS[1], last], []))

    def test_names(self):
        for name in ("", "A", "abcdefghi", "a b", "a\n", "a1"):
            self.assert_no_built(([], [(name, [("begin", 1, 1, 0)])]))
        self.assert_no_built(([], [("a", [("begin", 1, 1, 0)]), ("a", [("begin", 2, 2, 0)])]))

    def test_numbers(self):
        self.assert_no_built(([], [("a", [("begin", 1, 1, 0)]), ("b", [("begin", 2, 1, 0)])]))

    def test_begin(self):
        self.assert_no_built(
            ([], [("a", [("undo", 1)])]), ([], [("a", [("reload", 1, 0)])]),
            ([], [("a", [("deed", 1, ("put", None, ""))])]),
            ([], [("a", [("reload", 1, 0), ("begin", 2, 1, 0)])]),
            ([], [("a", [("begin", 1, 1, 0), ("begin", 2, 1, 0)])]),
            ([], [("a", [("begin", 1, 1, 0), ("reload", 2, 0), ("begin", 3, 2, 0)])]), more(("begin", 20, 1, 0)))
        # Also ahead of the window's last save.
        self.assert_no_built(changed(1, ("begin", 3, 1, 0), False))

    def test_a_save_ahead_of_the_begin(self):
        self.assert_no_built(
            ([(("save", 4, 1, 0), [], [])], [("a", [("begin", 5, 1, 0)])]),
            ([(("save", 4, 1, 0), [], []), (("save", 8, 1, 0), [], [])], [("a", [("begin", 5, 1, 0)])]))
        built([(("save", 4, 2, 0), [], [])], [("a", [("begin", 5, 1, 0)])])

    def test_records_that_cannot_be_done(self):
        self.assert_no_built(*[more(("deed", 20, deed)) for deed in (
            ("put", (9, 9), "x"), ("put", None, "a\tb"), ("take", (9, 9)), ("take", (1, 3)), ("move", A, A),
            ("write", A, "\n"), ("part", A, 99), ("part", A, -1), ("join", B), ("carry", B, A, None),
            ("carry", A, B, B))])
        self.assert_no_built(
            more(("undo", 20), ("undo", 21)), more(("again", 20), ("again", 21)),
            more(("reload", 20, 4), ("again", 21)),
            ([], [("a", [("begin", 1, 1, 0), ("undo", 2)])]), ([], [("a", [("begin", 1, 1, 0), ("again", 2)])]))

    def test_reloads_that_cannot_be_done(self):
        # Save 4 has another version of A than save 2, on which the window lies.
        crossed = (("deed", 20, ("write", A, "mine")), ("reload", 21, 4))
        self.assert_no_built(more(*crossed))
        built(*more(crossed[0], ("undo", 21), ("reload", 22, 4)))
        self.assert_no_built(more(("reload", 20, 1)), more(("reload", 20, 0)),
                             more(("reload", 20, 4), ("reload", 21, 3)))
        built(*more(("reload", 20, 2)))
        built(*more(("reload", 20, 3), ("reload", 21, 4)))

    def test_records_of_houses_with_one_beat_changed(self):
        # Two records of a slip or the book that change places break the rising of beats.
        for seed in range(20):
            house, chance = by_chance(seed, 40, NAMES), random.Random(seed)
            records, slips = house.records(), house.slips()
            if len(records) > 1:
                at = chance.randrange(len(records) - 1)
                turned = records[:at] + [records[at + 1], records[at]] + records[at + 2:]
                self.assert_refused("NoBuilt", built, turned, slips)
            for name, notes in slips:
                if len(notes) > 2:
                    notes[1], notes[2] = notes[2], notes[1]
                    self.assert_refused("NoBuilt", built, records, slips)
                    break


class OwnListsTest(RefusalCase):

    def test_lists_handed_in(self):
        records, slips = copy.deepcopy((RECORDS, SLIPS))
        house = built(records, slips)
        self.assertEqual((records, slips), (RECORDS, SLIPS))
        before = copy.deepcopy(house_told(house))
        for head, pieces, asides in records:
            pieces.clear()
            asides.append(None)
        for name, notes in slips:
            notes.clear()
        records.clear()
        slips.append(None)
        self.assertEqual(house_told(house), before)
        house.opens("a")
        self.assertEqual(house.undo("a"), [B])

    def test_lists_of_another_house(self):
        house = by_chance(3, 60, NAMES)
        anew = opened(built(house.records(), house.slips()))
        before = copy.deepcopy(house_told(house))
        for turn in range(5):
            anew.does("a", ("put", None, "x"))
            anew.save("a")
            anew.undo("b") if anew.unsaved("b") else anew.reload("b")
        self.assertEqual(house_told(house), before)


if __name__ == "__main__":
    unittest.main()
