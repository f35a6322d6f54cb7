"""A house built again from the book's records and the slips."""

from twotabs.errors import DraftError, NoBuilt
from twotabs.house import House
from twotabs.windows import Window
from twotabs.words import is_name


def built(records, slips):
    """Build the house of the book's records and of slips, pairs (name, records); all its windows are closed."""
    kept = [(name, notes) for name, notes in slips if len(notes) > 0]
    check_beats([[head[1] for head, pieces, asides in records]] + [[note[1] for note in notes] for name, notes in kept])
    house = House()
    for record in records:
        enter_again(house, record)
    check_slips(house.book, kept)
    for name, notes in kept:
        house.takes_in(name, window_again(house.book, notes), notes)
    return house


def check_beats(rows):
    """Refuse rows of beats of which one does not rise from 1 on, or that have one together."""
    for beats in rows:
        check_rising([0] + beats)
    check_each_once([beat for beats in rows for beat in beats])


def check_rising(things):
    """Refuse things of which one is not greater than the one ahead."""
    for one, other in zip(things, things[1:]):
        if one >= other:
            raise NoBuilt("beats or marks do not rise")


def check_each_once(things):
    """Refuse things of which two are alike."""
    if len(set(things)) != len(things):
        raise NoBuilt("two beats, names or numbers are alike")


def enter_again(house, record):
    """Add the save that a record of the book tells."""
    head, pieces, asides = record
    check_pieces(house.newest_sheet(), head, pieces)
    check_asides(house.newest_sheet().given(pieces), head, asides)
    if head[0] == "back":
        check_save(house.book, head[2], head[1])
    try:
        house.enters(head, pieces, asides)
    except DraftError:
        raise NoBuilt("a clash cannot be settled so") from None


def check_pieces(sheet, head, pieces):
    """Refuse pieces that a record of this head cannot add to the sheet ahead."""
    check_rising([mark for mark, version in pieces])
    for mark, version in pieces:
        before = sheet.version(mark)
        if version[0] > head[1]:
            raise NoBuilt("a piece's beat is above the record's")
        if before is not None and version[0] <= before[0]:
            raise NoBuilt("a piece's beat is not above that in the save ahead")


def check_asides(sheet, head, asides):
    """Refuse versions that cannot stand aside in a record of this head with the new sheet."""
    check_rising([mark for mark, aside in asides])
    for mark, aside in asides:
        stands = sheet.version(mark)
        if head[0] != "save" or stands is None or stands[0] <= aside[0]:
            raise NoBuilt("a version stands aside that no save of a window can tell")


def check_save(book, save, beat):
    """Refuse a number that is no save's of a beat below this one."""
    if save < 0 or save > book.newest() or book.told(save)[1] >= beat:
        raise NoBuilt("there was no such save yet")


def check_slips(book, slips):
    """Refuse slips that cannot be those of a house with this book."""
    for name, notes in slips:
        if not is_name(name):
            raise NoBuilt("the name is no window's")
        check_begin(notes)
        check_bases(book, notes)
    check_each_once([name for name, notes in slips])
    check_each_once([notes[0][2] for name, notes in slips])


def check_begin(notes):
    """Refuse a slip in which not just the first record is its begin."""
    if [at for at, note in enumerate(notes) if note[0] == "begin"] != [0]:
        raise NoBuilt("not just the first record is the begin")


def check_bases(book, notes):
    """Refuse a slip that knows of saves ahead of their time, or begins behind a save of its own."""
    word, start, number, base = notes[0]
    check_save(book, base, start)
    for note in notes:
        if note[0] == "reload":
            check_save(book, note[2], note[1])
    for save in range(book.newest() + 1):
        window, beat, count = book.told(save)
        if window == number and beat < start:
            raise NoBuilt("the window saved ahead of its begin")


def window_again(book, notes):
    """Make the window that a slip tells."""
    word, start, number, base = notes[0]
    save = book.last_of(number)
    if save is None:
        window = Window(number, base, book.sheet(base), 0)
    else:
        saver, start, count = book.told(save)
        window = Window(number, save, book.sheet(save), count)
    for note in notes[1:]:
        if note[1] > start:
            do_again(window, book, note)
    return window


def do_again(window, book, note):
    """Do in a window what a record of its slip tells."""
    try:
        if note[0] == "deed":
            window.does(note[2], note[1])
        elif note[0] == "undo":
            window.undo()
        elif note[0] == "again":
            window.again()
        else:
            reload_again(window, book, note[2])
    except DraftError:
        raise NoBuilt("a record of a slip cannot be done") from None


def reload_again(window, book, save):
    """Lay a window on a save, which may not lie below its base."""
    if save < window.base():
        raise NoBuilt("a window reloads what lies below its base")
    window.rebase(save, book.sheet(save))
