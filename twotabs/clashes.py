"""Clashes: two versions of one piece, of which one stands and one stands aside till the clash is settled."""

from twotabs.errors import NoBoth, NoChoice, NoClash, Settled
from twotabs.places import between
from twotabs.versions import at_beat, is_in

CHOICES = ("stay", "turn", "both")


class Clashes:
    """Clashes (number, mark, stands, aside, save, choice), numbered from 1 on; the choice of an open one is empty."""

    def __init__(self):
        self.known = []

    def tell(self, mark, stands, aside, save):
        """Keep a new clash, and tell its number."""
        number = len(self.known) + 1
        self.known.append((number, mark, stands, aside, save, ""))
        return number

    def clash(self, number):
        """Tell the clash of a number."""
        if number < 1 or number > len(self.known):
            raise NoClash("the number is no clash's")
        return self.known[number - 1]

    def all_told(self):
        """Tell all clashes, numbers rising."""
        return list(self.known)

    def still(self):
        """Tell the numbers of the open clashes, rising."""
        return [clash[0] for clash in self.known if is_open(clash)]

    def settle(self, number, choice):
        """Settle a clash by a choice."""
        clash = self.to_settle(number, choice)
        self.known[number - 1] = clash[:5] + (choice,)

    def to_settle(self, number, choice):
        """Tell the clash of a number, if it can be settled by this choice; else it is refused."""
        clash = self.clash(number)
        check_choice(choice)
        if not is_open(clash):
            raise Settled("the clash is settled already")
        check_both(clash, choice)
        return clash


def is_open(clash):
    """Tell whether a clash is not settled yet."""
    return clash[5] == ""


def check_choice(choice):
    """Refuse what is none of the choices."""
    if choice not in CHOICES:
        raise NoChoice("the choice is none of the three")


def check_both(clash, choice):
    """Refuse to keep both where the version aside is out."""
    if choice == "both" and not is_in(clash[3]):
        raise NoBoth("the version aside is out")


def chosen(clash, choice, sheet, beat):
    """Tell the pairs (mark, version) that a choice gives a sheet at a beat."""
    check_choice(choice)
    check_both(clash, choice)
    if choice == "turn":
        return [(clash[1], at_beat(clash[3], beat))]
    if choice == "both":
        return [both_pair(clash, sheet, beat)]
    return []


def both_pair(clash, sheet, beat):
    """Make the pair of a new piece that keeps the version aside beside the one that stands."""
    number = clash[0]
    low, words = clash[3][1:]
    place = between(low, sheet.next_place(low, []), 0, number)
    return ((0, number), (beat, place, words))
