"""The desk: a house that is asked by rows, one at a time, and answers with texts."""

from twotabs.deeds import DEEDS
from twotabs.errors import (
    Crossed, NoBoth, NoChoice, NoClash, NoCut, NoDeed, NoName, NoPiece, NoRow, NoSave, NoStretch, NoText, NoWindow,
    NoWords, Opened, Settled,
)
from twotabs.house import House
from twotabs.papers import house_of, papers
from twotabs.versions import is_in
from twotabs.words import read_from

SHAPES = {
    "open": ("name",),
    "close": ("name",),
    "put": ("name", "behind", "words"),
    "take": ("name", "line"),
    "move": ("name", "line", "behind"),
    "write": ("name", "line", "words"),
    "part": ("name", "line", "many"),
    "join": ("name", "line"),
    "carry": ("name", "line", "line", "behind"),
    "undo": ("name",),
    "again": ("name",),
    "reload": ("name",),
    "save": ("name",),
    "show": ("name",),
    "unsaved": ("name",),
    "read": ("save",),
    "back": ("save",),
    "clashes": (),
    "settle": ("clash", "choice"),
    "cut": (),
}
MOST_FIGURES = 4
OK = "ok"
# Counts are from 1 on, so no piece has this mark: a deed on it is refused as one on a piece that is not there.
NO_MARK = (0, 0)


class Desk:
    """A house, and the answers to rows."""

    def __init__(self):
        self.house = House()

    def say(self, row):
        """Answer a row."""
        word, fields = read_said(row)
        if word == "cut":
            book, slips = papers(self.house)
            self.house = house_of(book, slips)
            return OK
        return answer_or_refusal(self.house, word, fields)


def read_said(row):
    """Read a row as the tuple of its word and the list of its fields' values."""
    word = row.partition(" ")[0]
    shape = SHAPES.get(word)
    if shape is None:
        raise NoRow("the first word is none that is answered")
    parts = row.split(" ", len(shape))
    # Where no field is asked for, the whole row is the one part.
    if parts[0] != word or len(parts) != len(shape) + 1:
        raise NoRow("the row has too few words, or too many")
    return (word, [read_value(kind, part) for kind, part in zip(shape, parts[1:])])


def read_value(kind, text):
    """Read a field of a row."""
    if kind == "words":
        return text
    if text == "" or " " in text:
        raise NoRow("a word has one sign or more, and no blanks")
    if kind in ("name", "choice"):
        return text
    return read_figures(text)


def read_figures(text):
    """Read a number of one to four figures."""
    if len(text) > MOST_FIGURES:
        raise NoRow("a number has four figures at most")
    try:
        return read_from(0, text)
    except NoText:
        raise NoRow("the text is no number") from None


def answer_or_refusal(house, word, fields):
    """Answer a row, also where the house refuses it."""
    try:
        return answer(house, word, fields)
    except NoWindow:
        return "no window"
    except NoName:
        return "no name"
    except Opened:
        return "is open"
    except NoWords:
        return "no words"
    except NoPiece:
        return "no line"
    except NoCut:
        return "no cut"
    except NoStretch:
        return "no stretch"
    except NoDeed:
        return "no deed"
    except Crossed as e:
        return f"crossed {len(e.marks)}"
    except NoSave:
        return "no save"
    except NoClash:
        return "no clash"
    except NoChoice:
        return "no choice"
    except Settled:
        return "settled"
    except NoBoth:
        return "no both"


def answer(house, word, fields):
    """Answer a row, where the house does not refuse it."""
    if word in DEEDS:
        house.does(fields[0], deed_of(house, word, fields))
        return OK
    answerer = ANSWERS[word]
    return answerer(house, fields)


def deed_of(house, word, fields):
    """Make the deed that a row tells by lines."""
    marks = [mark for mark, words in house.lines(fields[0])]
    things = [thing_of(kind, value, marks) for kind, value in zip(SHAPES[word][1:], fields[1:])]
    return (word,) + tuple(things)


def thing_of(kind, value, marks):
    """Tell what a deed has in the place of a field; marks are those of all lines."""
    if kind == "behind" and value == 0:
        return None
    if kind in ("line", "behind"):
        return marks[value - 1] if 1 <= value <= len(marks) else NO_MARK
    return value


def answer_open(house, fields):
    """Open a window."""
    house.opens(fields[0])
    return OK


def answer_close(house, fields):
    """Close a window."""
    house.closes(fields[0])
    return OK


def answer_undo(house, fields):
    """Undo the last deed in a window."""
    house.undo(fields[0])
    return OK


def answer_again(house, fields):
    """Do the last undone deed in a window again."""
    house.again(fields[0])
    return OK


def answer_reload(house, fields):
    """Lay a window on the newest save."""
    house.reload(fields[0])
    return OK


def answer_save(house, fields):
    """Save a window."""
    save, numbers = house.save(fields[0])
    return " ".join([save_text(save)] + [f"clash {number}" for number in numbers])


def answer_show(house, fields):
    """Tell the lines of a window's draft."""
    return lines_text(house.lines(fields[0]))


def answer_unsaved(house, fields):
    """Tell how many pieces of a window are unsaved."""
    return str(len(house.unsaved(fields[0])))


def answer_read(house, fields):
    """Tell the lines of a save."""
    return lines_text(house.read(fields[0]))


def answer_back(house, fields):
    """Go back to a save."""
    return save_text(house.back(fields[0]))


def answer_clashes(house, fields):
    """Tell the open clashes."""
    numbers = house.still()
    rows = [str(len(numbers))]
    for number in numbers:
        clash = house.clash(number)
        rows += [f"{number} {version_told(version)}" for version in clash[2:4]]
    return "\n".join(rows)


def answer_settle(house, fields):
    """Settle a clash."""
    number, choice = fields
    return save_text(house.settle(number, choice))


def save_text(save):
    """Tell a save's number."""
    return f"save {save}"


def lines_text(lines):
    """Tell the number of lines, and the words of each."""
    return "\n".join([str(len(lines))] + [words for mark, words in lines])


def version_told(version):
    """Tell a version of a clash."""
    return f"in {version[2]}" if is_in(version) else "out"


ANSWERS = {
    "open": answer_open, "close": answer_close, "undo": answer_undo, "again": answer_again, "reload": answer_reload,
    "save": answer_save, "show": answer_show, "unsaved": answer_unsaved, "read": answer_read, "back": answer_back,
    "clashes": answer_clashes, "settle": answer_settle,
}
