"""Sheets: versions of pieces, one at most of each mark. A sheet never changes."""

from twotabs.errors import NoPiece, NoSheet
from twotabs.versions import is_in


class Sheet:
    """Versions of pieces, made of pairs (mark, version) in any order."""

    def __init__(self, pairs):
        self.versions = dict(pairs)
        if len(self.versions) != len(pairs):
            raise NoSheet("a mark stands twice")

    def pairs(self):
        """Tell all pairs (mark, version), marks rising."""
        return sorted(self.versions.items())

    def lines(self):
        """Tell the pairs (mark, words) of the pieces that are in, by place, of one place by mark."""
        inside = [(version[1], mark, version[2]) for mark, version in self.versions.items() if is_in(version)]
        return [(mark, words) for place, mark, words in sorted(inside)]

    def text(self):
        """Tell the words of all lines, a row end behind each."""
        return "".join([words + "\n" for mark, words in self.lines()])

    def version(self, mark):
        """Tell the version of a mark, or None."""
        return self.versions.get(mark)

    def has(self, mark):
        """Tell whether the piece of a mark is in."""
        version = self.version(mark)
        return version is not None and is_in(version)

    def piece(self, mark):
        """Tell the version of a piece that is in; it is refused if it is not."""
        if not self.has(mark):
            raise NoPiece("the piece is not in")
        return self.version(mark)

    def gap(self, behind, aside):
        """Tell the places (low, high) round the gap behind a piece, or at the head, some marks left aside."""
        low = () if behind is None else self.piece(behind)[1]
        return (low, self.next_place(low, aside))

    def next_place(self, low, aside):
        """Tell the least place behind low of the pieces that are in, some marks left aside, or None."""
        left = set(aside)
        # The place () of a piece that is out is behind none, so such pieces are passed over.
        places = [version[1] for mark, version in self.versions.items() if mark not in left and version[1] > low]
        return min(places, default=None)

    def given(self, pairs):
        """Make the sheet where these marks have these versions, or with None are not there."""
        versions = dict(self.versions)
        for mark, version in pairs:
            if version is None:
                versions.pop(mark, None)
            else:
                versions[mark] = version
        return Sheet(list(versions.items()))


def marks_of(one, other):
    """Tell the marks of which one of two sheets has a version, rising."""
    return sorted({mark for mark, version in one.pairs() + other.pairs()})
