"""The promises over the whole, [3] to [8], of houses of several windows with many mixed deeds.

Each is asked of houses as they are, and of such that are read back from their papers at any places.
"""

import copy
import itertools
import random
import unittest

from helper import (
    RefusalCase, act, book_told, closed, draft_of, house_told, names_open, perhaps_read_back, random_act, random_deed,
    read_back,
    window_told,
)
from twotabs.house import House
from twotabs.papers import house_of, papers
from twotabs.versions import alike

NAMES = ("a", "b", "c")


def sheets_of(house):
    """The pieces of each save as dicts, put together from the records."""
    sheets = [{}]
    for head, pieces, asides in house.records():
        sheets.append(sheets[-1] | dict(pieces))
    return sheets


def seeds(many):
    """So many seeds, each without and with reading back."""
    return itertools.product(range(many), (False, True))


def house_by_chance(seed, turns, names=NAMES, reads=False):
    """A house of so many deeds, and the deeds that were not refused; reading back is the deed cut."""
    chance, house, deeds = random.Random(seed), House(), []
    for turn in range(turns):
        anew = perhaps_read_back(chance, house, reads)
        if anew is not house:
            house = anew
            deeds.append(("cut",))
        deed = random_act(chance, house, names)
        beat = house.beat()
        act(house, deed)
        if house.beat() > beat or deed[0] in ("opens", "closes"):
            deeds.append(deed)
    return house, deeds


def told_anew(deeds):
    """The house of these deeds, and what each of them tells."""
    house, told = House(), []
    for deed in deeds:
        if deed == ("cut",):
            house = read_back(house)
            told.append(None)
        else:
            told.append(act(house, deed))
    return house, told


def done_anew(deeds):
    return told_anew(deeds)[0]


class NothingLostTest(RefusalCase):
    """[3]: nothing typed is lost."""

    def test_pieces_stay_in_the_book(self):
        for seed, reads in seeds(20):
            house, deeds = house_by_chance(seed, 100, reads=reads)
            for one, other in itertools.pairwise(sheets_of(house)):
                self.assertLessEqual(set(one), set(other))

    def test_at_every_save(self):
        clashes = 0
        for seed, reads in seeds(40):
            chance, house = random.Random(seed), House()
            for turn in range(100):
                house = perhaps_read_back(chance, house, reads)
                deed = random_act(chance, house, NAMES)
                if deed[0] == "save":
                    clashes += self.check_save(house, deed[1])
                else:
                    act(house, deed)
            self.check_asides(house)
        self.assertGreater(clashes, 60)

    def check_save(self, house, name):
        """Save, and look for every version of the draft, and of the save ahead; tells the number of clashes."""
        touched, lines = house.unsaved(name), dict(house.lines(name))
        drafts = {mark: draft_of(house, name).version(mark) for mark in touched}
        for mark, version in drafts.items():
            self.assertEqual(lines.get(mark, ""), version[2])
        sheets = sheets_of(house)
        base, last = sheets[house.base(name)], sheets[-1]
        save, numbers = house.save(name)
        new = sheets_of(house)[-1]
        asides = [(house.clash(number)[1], house.clash(number)[3]) for number in numbers]
        for mark, version in drafts.items():
            self.assertTrue(self.is_kept(mark, version, new, asides), (mark, version))
        for mark, version in last.items():
            self.assertTrue(self.is_kept(mark, version, new, asides) or version == base.get(mark), (mark, version))
        return len(numbers)

    def is_kept(self, mark, version, new, asides):
        """The version is in the new save, or in just one clash, or a later one alike to it is in the new save."""
        many = asides.count((mark, version))
        stands = new.get(mark)
        self.assertLessEqual(many, 1)
        return stands == version or many == 1 or (stands[0] > version[0] and alike(stands, version))

    def check_asides(self, house):
        """A version is aside once at most, and in no save from that clash on."""
        asides = [(clash[1], clash[3][0]) for clash in house.all_told()]
        self.assertEqual(len(asides), len(set(asides)))
        sheets = sheets_of(house)
        for number, mark, stands, aside, save, choice in house.all_told():
            self.assertEqual(sheets[save][mark], stands)
            for sheet in sheets[save:]:
                self.assertNotEqual(sheet[mark][0], aside[0])

    def test_an_example(self):
        house = done_anew([("opens", "a"), ("does", "a", ("put", None, "x")), ("save", "a"), ("opens", "b"),
                           ("does", "a", ("write", (1, 1), "of a")), ("does", "b", ("take", (1, 1))),
                           ("save", "b"), ("save", "a")])
        self.assertEqual(house.read(3), [])
        self.assertEqual([(clash[2][2], clash[3][2]) for clash in house.all_told()], [("", "of a")])
        house.settle(1, "both")
        self.assertEqual(house.read(4), [((0, 1), "of a")])


class MeantLastTest(RefusalCase):
    """[4]: what was meant last stands."""

    def test_the_latest_version_in_each_save(self):
        for seed, reads in seeds(40):
            house, deeds = house_by_chance(seed, 100, reads=reads)
            latest = {}
            for save, sheet in enumerate(sheets_of(house)):
                aside = [(clash[1], clash[3]) for clash in house.all_told() if clash[4] == save]
                for mark, version in list(sheet.items()) + aside:
                    latest[mark] = max(latest.get(mark, version), version)
                self.assertEqual(sheet, latest)

    def ready(self, seed, reads):
        """Deeds that leave all windows on the newest save, each with deeds of its own behind it."""
        chance = random.Random(seed)
        house, deeds = house_by_chance(seed, 40, reads=reads)
        deeds += [("opens", name) for name in NAMES if name not in names_open(house)]
        deeds += [("save", name) for name in NAMES] + [("reload", name) for name in NAMES]
        house = done_anew(deeds)
        self.assertEqual([house.base(name) for name in NAMES], [house.newest()] * 3)
        for turn in range(25):
            name = chance.choice(NAMES)
            deed = ("does", name, random_deed(chance, [mark for mark, words in house.lines(name)]))
            deeds.append(deed if chance.randrange(5) else (chance.choice(("undo", "again")), name))
            act(house, deeds[-1])
        return house, deeds

    def test_in_whatever_order_they_save(self):
        clashes = 0
        for seed, reads in seeds(25):
            house, deeds = self.ready(seed, reads)
            likes = self.marks_touched_alike(house)
            ends, asides = [], []
            for order in itertools.permutations(NAMES):
                between = [("cut",)] if reads else []
                end = done_anew(deeds + [deed for name in order for deed in between + [("save", name)]])
                told = [clash for clash in end.all_told() if clash[4] > house.newest()]
                clashes += len(told)
                ends.append(sheets_of(end)[-1])
                asides.append(sorted((clash[1], clash[3]) for clash in told if clash[1] not in likes))
            self.assertEqual(ends, [ends[0]] * 6)
            self.assertEqual(asides, [asides[0]] * 6)
        self.assertGreater(clashes, 500)

    def marks_touched_alike(self, house):
        """Marks of which two windows have touched versions alike."""
        versions = [(mark, draft_of(house, name).version(mark)) for name in NAMES for mark in house.unsaved(name)]
        return {mark for (mark, one), (mate, other) in itertools.combinations(versions, 2)
                if mark == mate and alike(one, other)}


class ExchangedTest(RefusalCase):
    """[5]: neighbouring deeds of unlike windows may be exchanged."""

    def shape(self, house):
        """All lines, bases and clashes, without beats."""
        for name, number, is_open in house.windows():
            if not is_open:
                house.opens(name)
        windows = [(name, number, house.lines(name), house.base(name), house.unsaved(name), house.news(name),
                    [(mark, stands[1:], aside[1:]) for mark, stands, aside in house.would(name)])
                   for name, number, is_open in house.windows()]
        reads = [house.read(save) for save in range(house.newest() + 1)]
        clashes = [(number, mark, stands[1:], aside[1:], save, choice)
                   for number, mark, stands, aside, save, choice in house.all_told()]
        return (windows, reads, clashes)

    def may_change_places(self, one, other, touched):
        """What [5] asks of two neighbours."""
        if not {one[0], other[0]} <= {"does", "undo", "again", "save"} or one[1] == other[1]:
            return False
        if one[0] == other[0] == "save":
            return False
        return not (one[0] == other[0] == "does" and set(touched[0]) & set(touched[1]))

    def test_by_chance(self):
        many = {"does": 0, "undo": 0, "save": 0}
        for seed, reads in seeds(30):
            house, deeds = house_by_chance(seed, 80, reads=reads)
            shape, told = self.shape(house), told_anew(deeds)[1]
            for at in range(len(deeds) - 1):
                one, other = deeds[at:at + 2]
                if self.may_change_places(one, other, told[at:at + 2]):
                    anew = done_anew(deeds[:at] + [other, one] + deeds[at + 2:])
                    self.assertEqual(self.shape(anew), shape)
                    for kind in many:
                        many[kind] += kind in (one[0], other[0])
        self.assertGreater(min(many.values()), 50)


class PlainList:
    """A plain list of words, the plain reading of what each deed says of lines; 0 is the head."""

    def __init__(self, words=()):
        self.words = list(words)
        self.before, self.undone = [], []

    def does(self, deed):
        kind, *things = deed
        self.before.append(list(self.words))
        self.undone = []
        getattr(self, kind)(*things)

    def put(self, behind, words):
        self.words.insert(behind, words)

    def take(self, line):
        del self.words[line - 1]

    def move(self, line, behind):
        self.carry(line, line, behind)

    def write(self, line, words):
        self.words[line - 1] = words

    def part(self, line, many):
        words = self.words[line - 1]
        self.words[line - 1:line] = [words[:many], words[many:]]

    def join(self, line):
        self.words[line - 1:line + 1] = ["".join(self.words[line - 1:line + 1])]

    def carry(self, first, last, behind):
        stretch = self.words[first - 1:last]
        rest = self.words[:first - 1] + self.words[last:]
        at = behind if behind < first else behind - len(stretch)
        self.words = rest[:at] + stretch + rest[at:]

    def undo(self):
        self.undone.append(self.words)
        self.words = self.before.pop()

    def again(self):
        self.before.append(self.words)
        self.words = self.undone.pop()

    def saved(self):
        self.before, self.undone = [], []


def line_deed(chance, many):
    """A deed that can be done on so many lines, by their numbers."""
    kinds = ["put"] * 4
    kinds += ["take", "write", "part", "move", "carry"] if many else []
    kinds += ["join"] if many > 1 else []
    kind, line = chance.choice(kinds), chance.randint(1, max(1, many))
    behind, words = chance.randint(0, many), "".join(chance.choices("ab ", k=chance.randrange(5)))
    if kind == "put":
        return (kind, behind, words)
    if kind == "write":
        return (kind, line, words)
    if kind == "part":
        return (kind, line, 0 if chance.randrange(3) else 1)
    if kind == "join":
        return (kind, chance.randint(1, many - 1))
    last = chance.randint(line, many)
    others = [other for other in range(many + 1) if not line <= other <= (last if kind == "carry" else line)]
    if kind == "move":
        return (kind, line, chance.choice(others))
    return (kind, line, last, chance.choice(others)) if kind == "carry" else (kind, line)


def marked(deed, lines):
    """The deed with marks in the place of lines."""
    marks = [None] + [mark for mark, words in lines]
    kind, *things = deed
    many = {"put": 1, "write": 1, "part": 1}.get(kind, len(things))
    return (kind,) + tuple(marks[line] for line in things[:many]) + tuple(things[many:])


class PlainListTest(RefusalCase):
    """[6]: a window alone, or windows that take turns, are a plain list of lines."""

    def words(self, lines):
        return [words for mark, words in lines]

    def deed_in(self, chance, house, name, plain):
        """One deed in the draft, on both; what cannot be done on one cannot on the other."""
        kind = chance.randrange(6)
        if kind == 0 and plain.before:
            house.undo(name)
            plain.undo()
        elif kind == 1 and plain.undone:
            house.again(name)
            plain.again()
        else:
            deed = line_deed(chance, len(plain.words))
            if deed[0] == "part" and deed[2] > len(plain.words[deed[1] - 1]):
                self.assert_refused("NoCut", house.does, name, marked(deed, house.lines(name)))
                return
            house.does(name, marked(deed, house.lines(name)))
            plain.does(deed)
        if not plain.before:
            self.assert_refused("NoDeed", house.undo, name)
        if not plain.undone:
            self.assert_refused("NoDeed", house.again, name)
        self.assertEqual(self.words(house.lines(name)), plain.words)

    def go_back(self, chance, house, plain, saves):
        """Go back to any save while nothing is unsaved."""
        save = chance.randrange(len(saves))
        house.back(save)
        plain.words = list(saves[save])
        plain.saved()
        saves.append(list(plain.words))

    def check_saves(self, house, saves):
        self.assertEqual([self.words(house.read(save)) for save in range(house.newest() + 1)], saves)
        self.assertEqual(house.all_told(), [])

    def test_alone(self):
        for seed, reads in seeds(30):
            chance, house, plain, saves = random.Random(seed), House(), PlainList(), [[]]
            house.opens("a")
            for turn in range(120):
                house = perhaps_read_back(chance, house, reads)
                kind = chance.randrange(20)
                if kind == 0 and house.unsaved("a") == []:
                    self.go_back(chance, house, plain, saves)
                    house.reload("a")
                elif kind == 1:
                    house.reload("a")
                    plain.undone = []
                elif kind == 2:
                    self.assertEqual(house.save("a"), (len(saves), []))
                    plain.saved()
                    saves.append(list(plain.words))
                elif kind == 3:
                    house.closes("a")
                    house.opens("a")
                else:
                    self.deed_in(chance, house, "a", plain)
                self.assertEqual(self.words(house.lines("a")), plain.words)
                self.assertEqual(house.would("a"), [])
            self.check_saves(house, saves)

    def test_in_turns(self):
        for seed, reads in seeds(30):
            chance, house, plain, saves = random.Random(seed), House(), PlainList(), [[]]
            for name in NAMES:
                house.opens(name)
            for turn in range(15):
                name = chance.choice(NAMES)
                house.reload(name)
                self.assertEqual(self.words(house.lines(name)), plain.words)
                for deed in range(chance.randrange(8)):
                    house = perhaps_read_back(chance, house, reads)
                    self.deed_in(chance, house, name, plain)
                self.assertEqual(house.save(name), (len(saves), []))
                plain.saved()
                saves.append(list(plain.words))
                if chance.randrange(5) == 0:
                    self.go_back(chance, house, plain, saves)
            self.check_saves(house, saves)


class TogetherTest(RefusalCase):
    """[6]: pieces put in one behind the other stay together."""

    def test_by_chance(self):
        for seed, reads in seeds(40):
            chance = random.Random(seed)
            house, deeds = house_by_chance(seed, 30, ("a", "b"), reads)
            for name in ("d", "e", "f"):
                house.opens(name)
            behind = chance.choice([None] + [mark for mark, words in house.lines("d")])
            chain = []
            for turn in range(6):
                house = perhaps_read_back(chance, house, reads)
                chain += house.does("d", ("put", chain[-1] if chain else behind, f"piece {turn}"))
                # The two others have not seen any of them, whether they work ahead or behind.
                for name in ("e", "f"):
                    for deed in range(4):
                        marks = [mark for mark, words in house.lines(name)]
                        act(house, ("does", name, random_deed(chance, marks)))
            for name in chance.sample(("d", "e", "f"), 3):
                house.save(name)
            lines = [mark for mark, words in house.read(house.newest())]
            self.assertEqual(lines[lines.index(chain[0]):][:6], chain)
            # Who had not seen them goes on in a draft of its own, and saves behind.
            for name in ("e", "f"):
                for deed in range(4):
                    marks = [mark for mark, words in house.lines(name) if mark not in chain]
                    if chain[0] not in dict(house.lines(name)):
                        act(house, ("does", name, random_deed(chance, marks)))
                house.save(name)
            lines = [mark for mark, words in house.read(house.newest())]
            self.assertEqual(lines[lines.index(chain[0]):][:6], chain)

    def test_two_chains_at_one_place(self):
        house = done_anew([("opens", "a"), ("does", "a", ("put", None, "head")), ("save", "a"), ("opens", "b"),
                           ("opens", "c")])
        behind = {name: (1, 1) for name in NAMES}
        for turn in range(5):
            for name in NAMES:
                (behind[name],) = house.does(name, ("put", behind[name], f"{name} {turn}"))
        for name in ("c", "a", "b"):
            house.save(name)
        words = [words for mark, words in house.read(house.newest())]
        self.assertEqual(words, ["head"] + [f"{name} {turn}" for name in NAMES for turn in range(5)])


def window_whole(house, name):
    """All that a window has: what is told of it, and what undoing and doing again come to."""
    house = copy.deepcopy(house)
    if name not in names_open(house):
        house.opens(name)
    told = [window_told(house, name)]
    for kind in ("undo", "again"):
        while (marks := act(house, (kind, name))) is not None:
            told.append((kind, marks, house.lines(name), house.unsaved(name)))
    return told


def own_part(whole):
    """What of that hangs on the window alone, not on later saves."""
    return [whole[0][:3]] + whole[1:]


class PapersTest(RefusalCase):
    """[7]: a house read back from its papers, whole or cut off."""

    def test_it_tells_the_same(self):
        for seed in range(25):
            house, deeds = house_by_chance(seed, 90)
            anew = house_of(*papers(house))
            self.assertEqual(house_told(anew), house_told(closed(house)))
            for name, number, is_open in house.windows():
                self.assertEqual(window_whole(anew, name), window_whole(house, name))

    def test_all_deeds_go_on_as_if_nothing_had_been(self):
        for seed in range(25):
            chance, house = random.Random(seed), House()
            anew = House()
            for turn in range(90):
                anew = perhaps_read_back(chance, anew, True)
                deed = random_act(chance, house, NAMES)
                self.assertEqual(act(anew, deed), act(house, deed))
                self.assertEqual(house_told(anew), house_told(house))

    def test_the_last_deed_cut_off_at_any_sign(self):
        kinds = set()
        for seed in range(6):
            chance, house = random.Random(seed), House()
            for turn in range(110):
                before, (book, slips) = house_told(closed(house)), papers(house)
                deed = random_act(chance, house, NAMES)
                beat = house.beat()
                act(house, deed)
                if house.beat() > beat:
                    kinds.add(deed[0])
                    self.check_cut(papers(house), book, dict(slips), before)
        self.assertEqual(kinds, {"opens", "does", "undo", "again", "reload", "save", "back", "settle"})

    def check_cut(self, written, book, slips, before):
        """Just one paper has grown; cut off within that, the house is as it was."""
        new_book, new_slips = written
        grown = [name for name, text in new_slips if text != slips.get(name, "")]
        self.assertEqual(len(grown) + (new_book != book), 1)
        self.assertTrue(new_book.startswith(book))
        for at in range(len(book), len(new_book)):
            self.assertEqual(house_told(house_of(new_book[:at], new_slips)), before)
        for name, text in new_slips:
            self.assertTrue(text.startswith(slips.get(name, "")))
            for at in range(len(slips.get(name, "")), len(text)):
                cut = [(each, text[:at] if each == name else slip) for each, slip in new_slips]
                self.assertEqual(house_told(house_of(new_book, cut)), before)

    def test_a_slip_cut_off_at_any_sign_or_lost(self):
        for seed in range(8):
            house, states = self.followed(seed)
            book, slips = papers(house)
            wholes = {name: window_whole(house, name) for name, text in slips}
            for name, text in slips:
                others = [(each, slip) for each, slip in slips if each != name]
                for at in list(range(len(text) + 1)) + [None]:
                    cut = others if at is None else others + [(name, text[:at])]
                    anew = house_of(book, cut)
                    self.assertEqual(book_told(anew), book_told(house))
                    for each, slip in others:
                        self.assertEqual(window_whole(anew, each), wholes[each])
                    rows = text[:at or 0].count("\n")
                    self.check_own(anew, name, rows, dict(house.slips())[name], states[name])

    def followed(self, seed):
        """A house by chance, and of each window how it was behind each of its deeds: lists of pairs (beat, whole)."""
        chance, house, states = random.Random(seed), House(), {name: [] for name in NAMES}
        for turn in range(50):
            deed = random_act(chance, house, NAMES)
            beat = house.beat()
            act(house, deed)
            if house.beat() > beat and deed[1] in NAMES:
                saves = deed[0] == "save"
                states[deed[1]].append((house.beat(), saves, own_part(window_whole(house, deed[1]))))
        return house, states

    def check_own(self, anew, name, rows, notes, states):
        """The window is as it was behind its last whole row, or its last save, if that was later."""
        if rows == 0:
            self.assertNotIn(name, [each for each, number, is_open in anew.windows()])
            return
        last_row = notes[rows - 1][1]
        last_save = max([beat for beat, saves, whole in states if saves], default=0)
        expected = [whole for beat, saves, whole in states if beat == max(last_row, last_save)]
        self.assertEqual([own_part(window_whole(anew, name))], expected)

    def test_a_window_opened_anew_behind_a_lost_slip(self):
        for seed in range(30):
            chance = random.Random(seed)
            house, deeds = house_by_chance(seed, 50)
            book, slips = papers(house)
            lost = chance.choice(slips)[0]
            house = house_of(book, [(name, text) for name, text in slips if name != lost])
            numbers = [number for name, number, is_open in house.windows()]
            numbers += [head[2] for head, pieces, asides in house.records() if head[0] == "save"]
            self.assertEqual(house.opens(lost), max(numbers, default=0) + 1)
            self.assertEqual((house.lines(lost), house.base(lost)), (house.read(house.newest()), house.newest()))
            seen = set(sheets_of(house)[-1])
            for turn in range(50):
                deed = random_act(chance, house, NAMES)
                marks = act(house, deed)
                if deed[0] == "does" and marks is not None and deed[2][0] == "put":
                    # No mark comes a second time, also not one of the window that was lost.
                    self.assertFalse(seen & set(marks))
                    seen |= set(marks)
            for one, other in itertools.pairwise(sheets_of(house)):
                self.assertTrue(all(one[mark][0] <= other[mark][0] for mark in one))
            self.assertEqual(house_told(house_of(*papers(house))), house_told(closed(house)))

    def test_a_slip_cut_off_and_gone_on_with(self):
        for seed in range(30):
            chance = random.Random(seed)
            house, deeds = house_by_chance(seed, 50)
            book, slips = papers(house)
            cut = [(name, text[:chance.randrange(len(text) + 1)]) for name, text in slips]
            house = house_of(book, cut)
            for turn in range(50):
                house = perhaps_read_back(chance, house, True)
                act(house, random_act(chance, house, NAMES))
            asides = [(clash[1], clash[3][0]) for clash in house.all_told()]
            self.assertEqual(len(asides), len(set(asides)))
            for one, other in itertools.pairwise(sheets_of(house)):
                self.assertTrue(all(one[mark][0] <= other[mark][0] for mark in one))


class ApartTest(RefusalCase):
    """[2]: houses share nothing, and lists that are told are the asker's own."""

    def test_two_houses_that_take_turns(self):
        for seed, reads in seeds(10):
            chance, houses = random.Random(seed), [House(), House()]
            deeds = [[], []]
            for turn in range(100):
                at = chance.randrange(2)
                anew = perhaps_read_back(chance, houses[at], reads)
                deeds[at] += [("cut",)] if anew is not houses[at] else []
                houses[at] = anew
                deeds[at].append(random_act(chance, anew, NAMES))
                act(anew, deeds[at][-1])
            self.assertEqual([house_told(done_anew(each)) for each in deeds], [house_told(house) for house in houses])

    def test_every_list_changed_behind(self):
        for seed, reads in seeds(10):
            chance, house, deeds = random.Random(seed), House(), []
            for turn in range(80):
                anew = perhaps_read_back(chance, house, reads)
                deeds += [("cut",)] if anew is not house else []
                house = anew
                deeds.append(random_act(chance, house, NAMES))
                spoil(act(house, deeds[-1]))
                spoil(house_told(house))
                spoil(papers(house))
            self.assertEqual(house_told(done_anew(deeds)), house_told(house))


def spoil(thing):
    """Change every list in a thing, at any depth."""
    if isinstance(thing, (list, tuple)):
        for each in thing:
            spoil(each)
    if isinstance(thing, list):
        thing.reverse()
        thing.append("spoiled")


class WholeSavesTest(RefusalCase):
    """[8]: who has no window reads only whole saves."""

    def test_between_saves_and_for_ever(self):
        for seed, reads in seeds(20):
            chance, house, read = random.Random(seed), House(), [([], [])]
            for turn in range(90):
                before, saves = book_told(house), house.newest()
                house = perhaps_read_back(chance, house, reads)
                self.assertEqual(book_told(house), before)
                deed = random_act(chance, house, NAMES)
                act(house, deed)
                if deed[0] not in ("save", "settle", "back"):
                    self.assertEqual(book_told(house), before)
                for save in range(saves + 1, house.newest() + 1):
                    read.append((house.read(save), house.since(save)))
                self.assertLessEqual(house.newest(), saves + 1)
                self.assertEqual([(house.read(save), house.since(save)) for save in range(len(read))], read)


if __name__ == "__main__":
    unittest.main()
