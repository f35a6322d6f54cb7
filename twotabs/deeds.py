"""Deeds on a sheet: each tells the pairs (mark, version) that it makes, and leaves the sheet as it is.

Each kind of deed has a def of its own; its maker is the tuple (window, count), which is the mark of a new piece.
"""

from twotabs.errors import NoCut, NoPiece, NoStretch, NoWords
from twotabs.places import between
from twotabs.versions import out_version
from twotabs.words import is_words


def done(sheet, deed, beat, window, count):
    """Tell what a deed does: pairs (mark, version), marks rising."""
    doer = DEEDS[deed[0]]
    return sorted(doer(sheet, deed, beat, (window, count)))


def put(sheet, deed, beat, maker):
    """A new piece is put in."""
    behind, words = deed[1:]
    check_words(words)
    return [new_piece(sheet, behind, words, beat, maker)]


def take(sheet, deed, beat, maker):
    """A piece is taken out."""
    mark = deed[1]
    sheet.piece(mark)
    return [(mark, out_version(beat))]


def move(sheet, deed, beat, maker):
    """A piece is moved."""
    mark, behind = deed[1:]
    words = sheet.piece(mark)[2]
    if behind == mark:
        raise NoPiece("a piece cannot be moved behind itself")
    return [(mark, (beat, place_behind(sheet, behind, [mark], maker), words))]


def write(sheet, deed, beat, maker):
    """A piece is written anew."""
    mark, words = deed[1:]
    check_words(words)
    place = sheet.piece(mark)[1]
    return [(mark, (beat, place, words))]


def part(sheet, deed, beat, maker):
    """A piece is parted; the rest of its words is a new piece."""
    mark, many = deed[1:]
    place, words = sheet.piece(mark)[1:]
    if many < 0 or many > len(words):
        raise NoCut("the piece has not so many signs")
    return [(mark, (beat, place, words[:many])), new_piece(sheet, mark, words[many:], beat, maker)]


def join(sheet, deed, beat, maker):
    """A piece is joined with the one of the line next behind it, which is out then."""
    mark = deed[1]
    place, words = sheet.piece(mark)[1:]
    other = line_behind(sheet, mark)
    return [(mark, (beat, place, words + sheet.piece(other)[2])), (other, out_version(beat))]


def carry(sheet, deed, beat, maker):
    """A stretch of lines is carried elsewhere."""
    first, last, behind = deed[1:]
    for mark in (first, last):
        sheet.piece(mark)
    if behind is not None:
        sheet.piece(behind)
    stretch = stretch_of(sheet, first, last)
    if behind in stretch:
        raise NoStretch("lines cannot be carried behind one of themselves")
    return carried(sheet, stretch, sheet.gap(behind, stretch), beat, maker)


def carried(sheet, stretch, gap, beat, maker):
    """Tell the pairs of a stretch of marks that is carried into a gap."""
    place, high = gap
    pairs = []
    for mark in stretch:
        place = between(place, high, maker[0], maker[1])
        pairs.append((mark, (beat, place, sheet.piece(mark)[2])))
    return pairs


def check_words(words):
    """Refuse a text that is no words."""
    if not is_words(words):
        raise NoWords("words have no row ends and no tabs")


def new_piece(sheet, behind, words, beat, maker):
    """Make the pair of a piece that is put in behind another one, or at the head."""
    return (maker, (beat, place_behind(sheet, behind, [], maker), words))


def place_behind(sheet, behind, aside, maker):
    """Make a place in the gap behind a piece, or at the head."""
    low, high = sheet.gap(behind, aside)
    return between(low, high, maker[0], maker[1])


def line_behind(sheet, mark):
    """Tell the mark of the line next behind that of a mark."""
    marks = line_marks(sheet)
    at = marks.index(mark) + 1
    if at == len(marks):
        raise NoPiece("no line is behind the last one")
    return marks[at]


def stretch_of(sheet, first, last):
    """Tell the marks of all lines from the first to the last."""
    marks = line_marks(sheet)
    start, end = marks.index(first), marks.index(last)
    if end < start:
        raise NoStretch("the last line stands ahead of the first")
    return marks[start:end + 1]


def line_marks(sheet):
    """Tell the marks of all lines in their order."""
    return [mark for mark, words in sheet.lines()]


DEEDS = {"put": put, "take": take, "move": move, "write": write, "part": part, "join": join, "carry": carry}
