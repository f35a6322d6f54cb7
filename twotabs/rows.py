"""Rows: the records of the slips and of the book, as they are written.

A row is a word and its fields, with single blanks between; the last field takes all that follows.
"""

from twotabs.clashes import CHOICES
from twotabs.deeds import DEEDS
from twotabs.errors import NoText
from twotabs.versions import read_version, version_text
from twotabs.words import is_words, mark_text, number_text, read_from, read_mark, read_number

SHAPES = {
    "begin": ("beat", "window", "save"),
    "put": ("beat", "behind", "words"),
    "take": ("beat", "mark"),
    "move": ("beat", "mark", "behind"),
    "write": ("beat", "mark", "words"),
    "part": ("beat", "mark", "many"),
    "join": ("beat", "mark"),
    "carry": ("beat", "mark", "mark", "behind"),
    "undo": ("beat",),
    "again": ("beat",),
    "reload": ("beat", "save"),
    "save": ("beat", "window", "count"),
    "back": ("beat", "save"),
    "settle": ("beat", "clash", "choice"),
    "piece": ("mark", "version"),
    "clash": ("mark", "version"),
}
NOTES = ("begin", "undo", "again", "reload")
HEADS = ("save", "back", "settle")
LEAST = {"beat": 1, "window": 1, "clash": 1, "save": 0, "count": 0}
END = "end"
HEAD_OF_ALL = "-"


def slip_row(record):
    """Write a record of a slip."""
    if record[0] == "deed":
        word, beat, deed = record
        return row_text(deed[0], (beat,) + deed[1:])
    return row_text(record[0], record[1:])


def book_rows(record):
    """Write a record of the book."""
    head, pieces, asides = record
    rows = [row_text(head[0], head[1:])]
    rows += [row_text("piece", pair) for pair in pieces]
    rows += [row_text("clash", pair) for pair in asides]
    return rows + [END]


def row_text(word, values):
    """Write a row of a word and the values of its fields."""
    return " ".join([word] + [field_text(kind, value) for kind, value in zip(SHAPES[word], values)])


def field_text(kind, value):
    """Write a field of a kind."""
    if kind == "mark":
        return mark_text(value)
    if kind == "behind":
        return HEAD_OF_ALL if value is None else mark_text(value)
    if kind == "version":
        return version_text(value)
    if kind in ("words", "choice"):
        return value
    return number_text(value)


def read_slip_row(row):
    """Read a record of a slip."""
    word, values = read_row(row)
    if word in DEEDS:
        return ("deed", values[0], (word,) + values[1:])
    if word not in NOTES:
        raise NoText("the row is none of a slip")
    return (word,) + values


def read_book_rows(rows):
    """Read a record of the book."""
    if rows == [] or rows[-1] != END:
        raise NoText("the last row of a record is its end")
    told = [read_row(row) for row in rows[:-1]]
    words = [word for word, values in told]
    pieces = [values for word, values in told if word == "piece"]
    asides = [values for word, values in told if word == "clash"]
    if words == [] or words[0] not in HEADS:
        raise NoText("the first row of a record is its head")
    if words[1:] != ["piece"] * len(pieces) + ["clash"] * len(asides):
        raise NoText("behind the head stand pieces, then clashes")
    return ((words[0],) + told[0][1], pieces, asides)


def read_row(row):
    """Read a row as the tuple of its word and its fields' values."""
    shape = SHAPES.get(row.partition(" ")[0])
    if shape is None:
        raise NoText("the first word is none of a row")
    word, *fields = row.split(" ", len(shape))
    if len(fields) != len(shape):
        raise NoText("the row has too few fields")
    return (word, tuple([read_field(kind, field) for kind, field in zip(shape, fields)]))


def read_field(kind, text):
    """Read a field of a kind."""
    if kind == "mark":
        return read_mark(text)
    if kind == "behind":
        return None if text == HEAD_OF_ALL else read_mark(text)
    if kind == "version":
        return read_version(text)
    if kind == "words":
        return read_words(text)
    if kind == "choice":
        return read_choice(text)
    if kind == "many":
        return read_number(text)
    return read_from(LEAST[kind], text)


def read_words(text):
    """Read words."""
    if not is_words(text):
        raise NoText("words have no row ends and no tabs")
    return text


def read_choice(text):
    """Read a choice."""
    if text not in CHOICES:
        raise NoText("the choice is none of the three")
    return text
