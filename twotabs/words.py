"""Words, windows' names, numbers and marks, and the texts that write them."""

from twotabs.errors import NoText

FIGURES = "0123456789"
LETTERS = "abcdefghijklmnopqrstuvwxyz"
MOST_FIGURES = 30
MOST_LETTERS = 8
TOO_GREAT = 10 ** 30


def is_words(text):
    """Tell whether the text is words: without row ends and tabs."""
    return "\n" not in text and "\t" not in text


def is_name(text):
    """Tell whether the text is a window's name."""
    return 1 <= len(text) <= MOST_LETTERS and made_of(text, LETTERS)


def made_of(text, signs):
    """Tell whether each sign of the text is one of these signs."""
    return all([sign in signs for sign in text])


def number_text(number):
    """Write a number."""
    # Asked ahead of str, which refuses far greater numbers with an error of Python's own.
    if abs(number) >= TOO_GREAT:
        raise NoText("a number of more than thirty figures cannot be written")
    return str(number)


def read_number(text):
    """Read a number."""
    figures = text[1:] if text.startswith("-") else text
    # The length is asked ahead of int, which refuses far longer texts with an error of Python's own.
    if figures == "" or len(figures) > MOST_FIGURES or not made_of(figures, FIGURES):
        raise NoText("a number has one to thirty figures")
    if figures[0] == "0" and text != "0":
        raise NoText("a number has no 0 ahead, and 0 itself no sign")
    return int(text)


def read_from(least, text):
    """Read a number from the least one on."""
    number = read_number(text)
    if number < least:
        raise NoText("the number is too small")
    return number


def mark_text(mark):
    """Write a mark."""
    return dotted_text(mark)


def read_mark(text):
    """Read a mark."""
    window, count = read_dotted(text, 2)
    check_maker(window, count)
    return (window, count)


def dotted_text(numbers):
    """Write numbers with a dot between them."""
    return ".".join([number_text(number) for number in numbers])


def read_dotted(text, many):
    """Read just so many numbers with a dot between them."""
    parts = text.split(".")
    if len(parts) != many:
        raise NoText("numbers are missing, or too many")
    return [read_number(part) for part in parts]


def check_maker(window, count):
    """Refuse what is no window's number with one of its counts."""
    if window < 0 or count < 1:
        raise NoText("a window's number is from 0 on, a count from 1 on")
