"""Merging: two sheets that come from one base are brought together, mark by mark."""

from twotabs.sheets import Sheet, marks_of
from twotabs.versions import alike, later


def merged(base, last, mine):
    """Tell the merged sheet and the list of clashes (mark, stands, aside), marks rising."""
    pairs = []
    clashes = []
    for mark in marks_of(last, mine):
        there, here = last.version(mark), mine.version(mark)
        stands = later(there, here)
        pairs.append((mark, stands))
        if clash_due(base.version(mark), there, here):
            clashes.append((mark, stands, here if stands == there else there))
    return (Sheet(pairs), clashes)


def clash_due(before, there, here):
    """Tell whether two versions clash, of which before is the one in the base, or None."""
    if there is None or here is None:
        return False
    return there != before and here != before and not alike(there, here)
