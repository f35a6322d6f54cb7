"""Versions of a piece, tuples (beat, place, words), and the texts that write them."""

from twotabs.errors import NoText
from twotabs.places import place_text, read_place
from twotabs.words import is_words, number_text, read_from

OUT = "-"


def out_version(beat):
    """Make the version of a piece that is out."""
    return (beat, (), "")


def at_beat(version, beat):
    """Make the version with the same place and words at another beat."""
    return (beat, version[1], version[2])


def is_in(version):
    """Tell whether the piece is in."""
    return version[1] != ()


def alike(one, other):
    """Tell whether two versions have the same place and words, whatever their beats."""
    return one[1:] == other[1:]


def later(one, other):
    """Tell the later one of two versions, of which None is earlier than all."""
    if one is None:
        return other
    if other is None:
        return one
    return max(one, other)


def version_text(version):
    """Write a version."""
    beat, place, words = version
    if not is_in(version):
        return f"{number_text(beat)} {OUT}"
    return f"{number_text(beat)} {place_text(place)} {words}"


def read_version(text):
    """Read a version."""
    beat_text, blank, rest = text.partition(" ")
    beat = read_from(1, beat_text)
    if rest == OUT:
        return out_version(beat)
    where, blank, words = rest.partition(" ")
    place = read_place(where)
    # Words may be none, but the blank ahead of them stands in any case.
    if blank == "" or not is_words(words):
        raise NoText("behind the place stand a blank and words")
    return (beat, place, words)
