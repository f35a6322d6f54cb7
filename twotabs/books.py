"""The book: all saves, numbered from 0 on."""

from twotabs.errors import NoSave
from twotabs.sheets import Sheet
from twotabs.versions import alike, at_beat, out_version


class Book:
    """Saves, each a sheet with the tuple (window, beat, count) that is told of it."""

    def __init__(self):
        self.saves = [(Sheet([]), (0, 0, 0))]

    def add(self, sheet, window, beat, count):
        """Add a sheet as the newest save, and tell its number."""
        self.saves.append((sheet, (window, beat, count)))
        return self.newest()

    def newest(self):
        """Tell the newest save's number."""
        return len(self.saves) - 1

    def kept(self, save):
        """Tell what is kept of a save; a number that is no save's is refused."""
        if save < 0 or save > self.newest():
            raise NoSave("the number is no save's")
        return self.saves[save]

    def sheet(self, save):
        """Tell the sheet of a save."""
        return self.kept(save)[0]

    def told(self, save):
        """Tell the tuple (window, beat, count) of a save."""
        return self.kept(save)[1]

    def lines(self, save):
        """Tell the lines of a save."""
        return self.sheet(save).lines()

    def since(self, save):
        """Tell of each line of a save since which save it has been so, as pairs (mark, save)."""
        return [(mark, self.first_so(mark, save)) for mark, words in self.lines(save)]

    def first_so(self, mark, save):
        """Tell the least save from which on to this one a piece has the version that it has here."""
        version = self.sheet(save).version(mark)
        first = save
        # Save 0 has no pieces, so the walk ends behind it.
        while self.sheet(first - 1).version(mark) == version:
            first -= 1
        return first

    def trail(self, mark):
        """Tell the pairs (save, version) of all saves that have a version of a mark which the save ahead has not."""
        pairs = []
        before = None
        for save, (sheet, told) in enumerate(self.saves):
            version = sheet.version(mark)
            if version is not None and version != before:
                pairs.append((save, version))
            before = version
        return pairs

    def last_of(self, window):
        """Tell the last save of a window's number, or None."""
        return max([save for save, (sheet, told) in enumerate(self.saves) if told[0] == window], default=None)

    def greatest_window(self):
        """Tell the greatest window's number that a save tells."""
        return max([told[0] for sheet, told in self.saves])

    def back_pairs(self, save, beat):
        """Tell the pairs (mark, version) that bring the newest save back to an older one at a beat."""
        old = self.sheet(save)
        pairs = []
        for mark, version in self.sheet(self.newest()).pairs():
            back = version_back(old.version(mark), beat)
            if not alike(version, back):
                pairs.append((mark, back))
        return pairs


def version_back(version, beat):
    """Tell what a version that is gone back to is at a beat; where there was none, the piece is out."""
    if version is None:
        return out_version(beat)
    return at_beat(version, beat)
