"""Logs: entries of what deeds changed, that stand or are undone."""

from twotabs.errors import NoDeed


class Log:
    """Entries, lists of tuples (mark, before, after); the last one stands last in each of the two lists."""

    def __init__(self):
        self.standing = []
        self.undone = []

    def add(self, entry):
        """Add an entry, which stands; the undone ones are forgotten."""
        self.standing.append(list(entry))
        self.forget()

    def empty(self):
        """Forget all entries."""
        self.standing = []
        self.forget()

    def forget(self):
        """Forget the undone entries."""
        self.undone = []

    def undo(self):
        """Undo the last entry that stands, and tell it."""
        return last_over(self.standing, self.undone)

    def again(self):
        """Let the last undone entry stand again, and tell it."""
        return last_over(self.undone, self.standing)

    def many(self):
        """Tell how many entries stand, and how many are undone."""
        return (len(self.standing), len(self.undone))

    def touched(self):
        """Tell the marks of all entries that stand, rising, each once."""
        return sorted({mark for entry in self.standing for mark, before, after in entry})


def last_over(entries, others):
    """Bring the last of the entries over to the end of the others, and tell a copy of it."""
    if entries == []:
        raise NoDeed("there is no such entry")
    entry = entries.pop()
    others.append(entry)
    return list(entry)
