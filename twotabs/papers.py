"""Papers: a house as the text of its book and the texts of its slips."""

from twotabs.built import built
from twotabs.errors import NoBuilt, NoPaper, NoText
from twotabs.rows import END, book_rows, read_book_rows, read_slip_row, slip_row


def papers(house):
    """Write a house: the tuple of the book's text and a list of pairs (name, text) of the slips."""
    book = paper_of([row for record in house.records() for row in book_rows(record)])
    return (book, [(name, paper_of([slip_row(note) for note in notes])) for name, notes in house.slips()])


def paper_of(rows):
    """Write rows with a row end behind each."""
    return "".join([row + "\n" for row in rows])


def house_of(book, slips):
    """Read a house from the text of its book and its slips, pairs (name, text) in any order."""
    try:
        return built(read_book(book), [(name, read_slip(slip)) for name, slip in slips])
    except (NoText, NoBuilt):
        raise NoPaper("the papers are those of no house") from None


def whole_rows(text):
    """Tell the rows that have their row end; what stands behind the last one was cut off."""
    return text.split("\n")[:-1]


def read_slip(text):
    """Read the records of a slip."""
    return [read_slip_row(row) for row in whole_rows(text)]


def read_book(text):
    """Read the records of a book; rows that no end follows were cut off."""
    records = []
    rows = []
    for row in whole_rows(text):
        rows.append(row)
        if row == END:
            records.append(read_book_rows(rows))
            rows = []
    return records
