"""A window: a draft that lies on a save, with what can be undone in it."""

from twotabs.deeds import done
from twotabs.errors import Crossed
from twotabs.logs import Log


class Window:
    """A window's number, its base, its draft, its count, and its log."""

    def __init__(self, number, base, sheet, count):
        self.number = number
        self.base_save = base
        self.base_sheet = sheet
        self.draft_sheet = sheet
        self.last_count = count
        self.log = Log()

    def base(self):
        """Tell the number of the save that the draft lies on."""
        return self.base_save

    def counted(self):
        """Tell the count."""
        return self.last_count

    def draft(self):
        """Tell the draft's sheet."""
        return self.draft_sheet

    def lines(self):
        """Tell the lines of the draft."""
        return self.draft_sheet.lines()

    def unsaved(self):
        """Tell the marks that the window touches, rising."""
        return self.log.touched()

    def does(self, deed, beat):
        """Do a deed in the draft at a beat, and tell the marks that have new versions."""
        count = self.last_count + 1
        pairs = done(self.draft_sheet, deed, beat, self.number, count)
        self.log.add([(mark, self.draft_sheet.version(mark), version) for mark, version in pairs])
        self.last_count = count
        return self.gives(pairs)

    def undo(self):
        """Undo the last deed that stands, and tell its marks."""
        return self.gives([(mark, before) for mark, before, after in self.log.undo()])

    def again(self):
        """Do the last undone deed again, and tell its marks."""
        return self.gives([(mark, after) for mark, before, after in self.log.again()])

    def gives(self, pairs):
        """Give the draft pairs (mark, version or None), and tell their marks."""
        self.draft_sheet = self.draft_sheet.given(pairs)
        return [mark for mark, version in pairs]

    def rebase(self, save, sheet):
        """Lay the window on the same or a later save."""
        marks = self.unsaved()
        crossed = [mark for mark in marks if self.base_sheet.version(mark) != sheet.version(mark)]
        if crossed != []:
            raise Crossed(crossed)
        own = [(mark, self.draft_sheet.version(mark)) for mark in marks]
        self.lies_on(save, sheet)
        self.gives(own)
        self.log.forget()

    def saved(self, save, sheet):
        """Take the new save as base and draft."""
        self.lies_on(save, sheet)
        self.log.empty()

    def lies_on(self, save, sheet):
        """Take a save as base, and its sheet as draft."""
        self.base_save = save
        self.base_sheet = sheet
        self.draft_sheet = sheet
