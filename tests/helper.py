"""What the tests share: how a refusal is asked for, all that a house tells, and houses of many mixed deeds."""

import copy
import random
import unittest

from twotabs import errors
from twotabs.house import House
from twotabs.papers import house_of, papers
from twotabs.sheets import Sheet
from twotabs.windows import Window

NAMES = (
    "NoText", "NoRoom", "NoSheet", "NoPiece", "NoWords", "NoCut", "NoStretch", "NoDeed", "Unfit", "NoSave",
    "NoClash", "NoChoice", "Settled", "NoBoth", "NoName", "Opened", "NoWindow", "NoBuilt", "NoPaper", "NoRow",
    "Crossed",
)
STRANGE = (9, 9)
CHOICES = ("stay", "turn", "both")


class RefusalCase(unittest.TestCase):
    """A test case that knows what a refusal must be."""

    def assert_just(self, error, name):
        """The error is of the class of this name and DraftError, and of no other class of the interface."""
        self.assertIsInstance(error, errors.DraftError)
        self.assertIsInstance(error, ValueError)
        of = [each for each in NAMES if isinstance(error, getattr(errors, each))]
        self.assertEqual(of, [name])

    def assert_refused(self, name, call, *things):
        """The call is refused with just the class of this name; tells the error."""
        with self.assertRaises(ValueError) as caught:
            call(*things)
        self.assert_just(caught.exception, name)
        return caught.exception

    def assert_same(self, one, other):
        """The two are the same; for great ones, of which assertEqual would reckon the difference for minutes."""
        self.assertTrue(one == other, "they are unlike")


def random_deed(chance, marks):
    """A deed on some of these marks, now and then on none of them."""
    pool = marks + [STRANGE] if chance.randrange(8) == 0 or not marks else marks
    pick = lambda: chance.choice(pool)
    behind = lambda: chance.choice(marks + [None])
    words = chance.choice(("w", "", "two words", " v", "end"))
    return chance.choice((
        ("put", behind(), words), ("put", behind(), words), ("take", pick()), ("move", pick(), behind()),
        ("write", pick(), words), ("write", pick(), "v"), ("part", pick(), chance.randrange(4)), ("join", pick()),
        ("carry", pick(), pick(), behind())))


def marks_in(house):
    """All marks that the saves of a house have, rising."""
    return sorted({mark for head, pieces, asides in house.records() for mark, version in pieces})


def window_told(house, name):
    """All that a house tells of an open window."""
    return (house.lines(name), house.base(name), house.unsaved(name), house.would(name), house.news(name))


def book_told(house):
    """All that is read in a house without a window."""
    saves = range(house.newest() + 1)
    return (house.newest(), [house.read(save) for save in saves], [house.since(save) for save in saves],
            [(mark, house.trail(mark)) for mark in marks_in(house)], house.all_told(), house.still())


def house_told(house):
    """All that a house tells."""
    shown = [(name, window_told(house, name)) for name, number, is_open in house.windows() if is_open]
    return (house.windows(), shown, house.beat(), book_told(house), house.records(), house.slips())


def random_act(chance, house, names):
    """A deed for one of these windows, or for the whole house: a tuple of its method's name and what is handed in."""
    name = chance.choice(names)
    kind = chance.randrange(24)
    if name not in names_open(house):
        return ("opens", name)
    if kind < 13:
        return ("does", name, random_deed(chance, [mark for mark, words in house.lines(name)]))
    if kind < 17:
        return (("undo", "undo", "again", "again")[kind - 13], name)
    if kind < 20:
        return (("save", "save", "reload")[kind - 17], name)
    if kind == 20:
        return ("closes", name)
    if kind == 21:
        return ("back", chance.randrange(-1, house.newest() + 2))
    return ("settle", chance.choice(house.still() + [0]), chance.choice(CHOICES + ("none",)))


def act(house, deed):
    """Do what random_act tells: what the house tells of it, or None where it is refused."""
    try:
        return getattr(house, deed[0])(*deed[1:])
    except errors.DraftError:
        return None


def sheet_of(house, save):
    """The sheet of a save, put together from the records."""
    sheet = Sheet([])
    for head, pieces, asides in house.records()[:save]:
        sheet = sheet.given(pieces)
    return sheet


def draft_of(house, name):
    """The sheet of a window's draft, done anew from the records."""
    begin, *notes = dict(house.slips())[name]
    window, start = Window(begin[2], begin[3], sheet_of(house, begin[3]), 0), begin[1]
    for save, (head, pieces, asides) in enumerate(house.records(), 1):
        if head[0] == "save" and head[2] == begin[2]:
            window, start = Window(begin[2], save, sheet_of(house, save), head[3]), head[1]
    for note in notes:
        if note[1] > start and note[0] == "deed":
            window.does(note[2], note[1])
        elif note[1] > start and note[0] == "reload":
            window.rebase(note[2], sheet_of(house, note[2]))
        elif note[1] > start:
            getattr(window, note[0])()
    return window.draft()


def names_open(house):
    """The names of the open windows."""
    return [name for name, number, is_open in house.windows() if is_open]


def read_back(house):
    """The house read from its papers, with the same windows open."""
    anew = house_of(*papers(house))
    for name in names_open(house):
        anew.opens(name)
    return anew


def perhaps_read_back(chance, house, reads):
    """The house itself, or, where reads is true, now and then the one read from its papers."""
    return read_back(house) if reads and chance.randrange(8) == 0 else house


def by_chance(seed, turns, names):
    """A house of so many mixed deeds in windows of these names."""
    chance, house = random.Random(seed), House()
    for turn in range(turns):
        act(house, random_act(chance, house, names))
    return house


def closed(house):
    """The house once more, with all its windows closed."""
    house = copy.deepcopy(house)
    for name in names_open(house):
        house.closes(name)
    return house
