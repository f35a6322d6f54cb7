"""Places: the one between two others, and the texts that write them.

Places are in order as Python's tuples are, so they are compared as they stand.
"""

from twotabs.errors import NoRoom
from twotabs.words import check_maker, dotted_text, read_dotted


def between(low, high, window, count):
    """Make the place behind low and ahead of high; low may be (), high None."""
    if high is not None and low >= high:
        raise NoRoom("the low place is not ahead of the high one")
    return low + ((free_rank(low, high), window, count),)


def free_rank(low, high):
    """Tell the rank of a step that leads from low to a place ahead of high."""
    if high is None or high[:len(low)] != low:
        return 0
    return high[len(low)][0] - 1


def place_text(place):
    """Write a place."""
    return "/".join([dotted_text(step) for step in place])


def read_place(text):
    """Read a place."""
    return tuple([read_step(part) for part in text.split("/")])


def read_step(text):
    """Read one step of a place."""
    rank, window, count = read_dotted(text, 3)
    check_maker(window, count)
    return (rank, window, count)
