"""The house: a book, clashes and windows, with the records of all that was done."""

from twotabs.books import Book
from twotabs.changes import changes
from twotabs.clashes import Clashes, chosen
from twotabs.errors import NoName, NoWindow, Opened
from twotabs.merges import merged
from twotabs.windows import Window
from twotabs.words import is_name


class Pane:
    """A window as a house keeps it: with the records of its slip, and whether it is open."""

    def __init__(self, window, notes):
        self.window = window
        self.notes = list(notes)
        self.shown = False


class House:
    """A book, clashes and windows by their names; what is read in the book are whole saves alone."""

    def __init__(self):
        self.book = Book()
        self.clashes = Clashes()
        self.entered = []
        self.panes = {}
        self.greatest_beat = 0

    def opens(self, name):
        """Let a window of this name be there and be open, and tell its number."""
        if not is_name(name):
            raise NoName("the text is no window's name")
        if name not in self.panes:
            self.begins(name)
        pane = self.panes[name]
        if pane.shown:
            raise Opened("a window of this name is open")
        pane.shown = True
        return pane.window.number

    def begins(self, name):
        """Make a new window on the newest save."""
        number = 1 + max([self.book.greatest_window()] + [pane.window.number for pane in self.panes.values()])
        base = self.newest()
        window = Window(number, base, self.book.sheet(base), 0)
        self.takes_in(name, window, [("begin", self.next_beat(), number, base)])

    def takes_in(self, name, window, notes):
        """Keep a window, closed, with the records of its slip."""
        self.panes[name] = Pane(window, notes)
        self.beats_to(notes[-1][1])

    def closes(self, name):
        """Close a window."""
        pane = self.open_pane(name)
        pane.shown = False

    def open_pane(self, name):
        """Tell what is kept of an open window; it is refused where none of this name is open."""
        if name not in self.panes or not self.panes[name].shown:
            raise NoWindow("no window of this name is open")
        return self.panes[name]

    def open_window(self, name):
        """Tell an open window."""
        return self.open_pane(name).window

    def next_beat(self):
        """Tell the beat of the next deed."""
        return self.greatest_beat + 1

    def beats_to(self, beat):
        """Take a beat as the greatest so far, if it is."""
        self.greatest_beat = max(self.greatest_beat, beat)

    def does(self, name, deed):
        """Do a deed in a window, and tell the marks that have new versions."""
        marks = self.open_window(name).does(deed, self.next_beat())
        self.writes_down(name, ("deed", self.next_beat(), deed))
        return marks

    def undo(self, name):
        """Undo the last deed that stands in a window, and tell its marks."""
        marks = self.open_window(name).undo()
        self.writes_down(name, ("undo", self.next_beat()))
        return marks

    def again(self, name):
        """Do the last undone deed of a window again, and tell its marks."""
        marks = self.open_window(name).again()
        self.writes_down(name, ("again", self.next_beat()))
        return marks

    def reload(self, name):
        """Lay a window on the newest save, and tell that save's number."""
        save = self.newest()
        self.open_window(name).rebase(save, self.newest_sheet())
        self.writes_down(name, ("reload", self.next_beat(), save))
        return save

    def writes_down(self, name, note):
        """Keep a record in the slip of a window."""
        self.panes[name].notes.append(note)
        self.beats_to(note[1])

    def save(self, name):
        """Save a window, and tell the tuple of the save's number and the list of the clashes' numbers."""
        window = self.open_window(name)
        sheet, clashes = self.merged_now(window)
        head = ("save", self.next_beat(), window.number, window.counted())
        pieces = [(mark, now) for mark, was, now in changes(self.newest_sheet(), sheet)]
        save, numbers = self.enters(head, pieces, [(mark, aside) for mark, stands, aside in clashes])
        window.saved(save, self.book.sheet(save))
        return (save, numbers)

    def merged_now(self, window):
        """Tell the sheet and the clashes that a window and the newest save come to."""
        return merged(self.book.sheet(window.base()), self.newest_sheet(), window.draft())

    def settle(self, number, choice):
        """Settle a clash by a choice, and tell the number of the new save."""
        clash = self.clashes.to_settle(number, choice)
        pieces = chosen(clash, choice, self.newest_sheet(), self.next_beat())
        save, numbers = self.enters(("settle", self.next_beat(), number, choice), pieces, [])
        return save

    def back(self, save):
        """Go back to a save in the book, and tell the number of the new save."""
        pieces = self.book.back_pairs(save, self.next_beat())
        new, numbers = self.enters(("back", self.next_beat(), save), pieces, [])
        return new

    def enters(self, head, pieces, asides):
        """Add the save that a record of the book tells; tell its number and those of its clashes."""
        # A house that is built again goes this way too, so it has what the first one had.
        if head[0] == "settle":
            self.clashes.settle(head[2], head[3])
        window, count = head[2:] if head[0] == "save" else (0, 0)
        sheet = self.newest_sheet().given(pieces)
        save = self.book.add(sheet, window, head[1], count)
        self.entered.append((head, list(pieces), list(asides)))
        self.beats_to(head[1])
        return (save, self.tells(asides, save))

    def tells(self, asides, save):
        """Tell the clashes of a save, whose sheet has the versions that stand; tell their numbers."""
        sheet = self.book.sheet(save)
        return [self.clashes.tell(mark, sheet.version(mark), aside, save) for mark, aside in asides]

    def lines(self, name):
        """Tell the lines of an open window's draft."""
        return self.open_window(name).lines()

    def base(self, name):
        """Tell the number of the save that an open window lies on."""
        return self.open_window(name).base()

    def unsaved(self, name):
        """Tell the unsaved marks of an open window, rising."""
        return self.open_window(name).unsaved()

    def would(self, name):
        """Tell the clashes (mark, stands, aside) that a save of an open window would tell now."""
        sheet, clashes = self.merged_now(self.open_window(name))
        return clashes

    def news(self, name):
        """Tell the marks, rising, that the newest save has in another version than an open window's base."""
        seen = self.book.sheet(self.base(name))
        return [mark for mark, was, now in changes(seen, self.newest_sheet())]

    def windows(self):
        """Tell all windows as tuples (name, number, whether it is open), numbers rising."""
        return [(name, self.panes[name].window.number, self.panes[name].shown) for name in self.names()]

    def names(self):
        """Tell the names of all windows, their numbers rising."""
        return [name for number, name in sorted([(pane.window.number, name) for name, pane in self.panes.items()])]

    def beat(self):
        """Tell the greatest beat so far."""
        return self.greatest_beat

    def newest(self):
        """Tell the newest save's number."""
        return self.book.newest()

    def newest_sheet(self):
        """Tell the newest save's sheet."""
        return self.book.sheet(self.newest())

    def read(self, save):
        """Tell the lines of a save."""
        return self.book.lines(save)

    def since(self, save):
        """Tell of each line of a save since which save it has been so, as pairs (mark, save)."""
        return self.book.since(save)

    def trail(self, mark):
        """Tell the pairs (save, version) of a mark's versions in the book, saves rising."""
        return self.book.trail(mark)

    def clash(self, number):
        """Tell the clash of a number."""
        return self.clashes.clash(number)

    def all_told(self):
        """Tell all clashes, numbers rising."""
        return self.clashes.all_told()

    def still(self):
        """Tell the numbers of the open clashes, rising."""
        return self.clashes.still()

    def records(self):
        """Tell the book's records, tuples (head, pieces, asides)."""
        return [(head, list(pieces), list(asides)) for head, pieces, asides in self.entered]

    def slips(self):
        """Tell the slips as pairs (name, list of records), windows' numbers rising."""
        return [(name, list(self.panes[name].notes)) for name in self.names()]
