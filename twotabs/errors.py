"""The refusals of the program: each is of its own class, and of DraftError."""


class DraftError(ValueError):
    """What all refusals stand under."""


class NoText(DraftError):
    """A text writes nothing of the kind that is read, or a number has too many figures to be written."""


class NoRoom(DraftError):
    """The low place is not ahead of the high one."""


class NoSheet(DraftError):
    """A mark stands twice where a sheet is made."""


class NoPiece(DraftError):
    """A piece is not in the sheet, or is out."""


class NoWords(DraftError):
    """A text is no words."""


class NoCut(DraftError):
    """Words cannot be parted behind so many signs."""


class NoStretch(DraftError):
    """Lines cannot be carried from there, or to there."""


class NoDeed(DraftError):
    """Nothing is there to undo, or to do again."""


class Unfit(DraftError):
    """Changes do not fit the sheet, or the changes ahead of them."""


class NoSave(DraftError):
    """A number is no save's."""


class NoClash(DraftError):
    """A number is no clash's."""


class NoChoice(DraftError):
    """A text is none of the choices."""


class Settled(DraftError):
    """A clash is not open any more."""


class NoBoth(DraftError):
    """Both cannot be kept, since the version aside is out."""


class NoName(DraftError):
    """A text is no window's name."""


class Opened(DraftError):
    """A window of this name is open already."""


class NoWindow(DraftError):
    """No window of this name is open."""


class NoBuilt(DraftError):
    """No house can be built from these records."""


class NoPaper(DraftError):
    """No house can be read from these papers."""


class NoRow(DraftError):
    """A row is none that the desk answers."""


class Crossed(DraftError):
    """Unsaved pieces have other versions in the new base; marks is the list of theirs."""

    def __init__(self, marks):
        # Words of its own are handed on, else the error would hold the caller's very list.
        DraftError.__init__(self, "unsaved pieces were changed by a later save")
        self.marks = list(marks)
