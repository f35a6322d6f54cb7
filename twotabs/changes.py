"""Changes from one sheet to another: tuples (mark, was, now), marks rising, of versions that are not the same."""

from twotabs.errors import Unfit
from twotabs.sheets import marks_of


def changes(one, other):
    """Tell the changes from one sheet to another."""
    return true_changes([(mark, one.version(mark), other.version(mark)) for mark in marks_of(one, other)])


def true_changes(some):
    """Leave out where was and now are the same."""
    return [(mark, was, now) for mark, was, now in some if was != now]


def laid(sheet, some):
    """Make the sheet that changes come to, laid on a sheet."""
    for mark, was, now in some:
        if sheet.version(mark) != was:
            raise Unfit("the sheet has another version")
    return sheet.given([(mark, now) for mark, was, now in some])


def turned(some):
    """Tell the changes the other way about."""
    return [(mark, now, was) for mark, was, now in some]


def followed(some, more):
    """Tell the changes that do some and then more at once."""
    whole = {mark: (was, now) for mark, was, now in some}
    for mark, was, now in more:
        first, met = whole.get(mark, (was, was))
        if met != was:
            raise Unfit("the changes do not meet")
        whole[mark] = (first, now)
    return true_changes([(mark, was, now) for mark, (was, now) in sorted(whole.items())])
