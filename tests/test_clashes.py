"""Promises [22] and [23], and [2] as it touches them: clashes, how they are settled, and what a choice does."""

import itertools
import unittest

from helper import RefusalCase
from twotabs.clashes import Clashes, chosen
from twotabs.sheets import Sheet

P = ((0, 1, 1),)
Q = ((0, 1, 1), (0, 2, 1))
R = ((3, 1, 4),)
A, B, C = (1, 1), (1, 2), (2, 10)
CHOICES = ("stay", "turn", "both")
NO_CHOICES = ("", "Stay", "stay ", " stay", "none", "turn\n", "bot", "boths", "staying", "t", "stay turn")

TOLD = (
    (A, (9, P, "stands"), (4, Q, "aside"), 3),
    (B, (12, R, ""), (11, (), ""), 3),
    (A, (15, (), ""), (9, P, ""), 4),
)
OUT_ASIDE = 2


def three():
    clashes = Clashes()
    for mark, stands, aside, save in TOLD:
        clashes.tell(mark, stands, aside, save)
    return clashes


def whole(settled=()):
    """All three as they are told, some of them settled: pairs (number, choice)."""
    choices = dict(settled)
    return [(number,) + told + (choices.get(number, ""),) for number, told in enumerate(TOLD, 1)]


class ToldTest(RefusalCase):

    def test_none_at_first(self):
        clashes = Clashes()
        self.assertEqual((clashes.all_told(), clashes.still()), ([], []))
        for number in (0, 1, -1, 2):
            self.assert_refused("NoClash", clashes.clash, number)

    def test_numbers_from_1_on(self):
        clashes = Clashes()
        self.assertEqual([clashes.tell(*told) for told in TOLD], [1, 2, 3])
        self.assertEqual([clashes.tell(*TOLD[0]) for turn in range(20)], list(range(4, 24)))

    def test_a_number_behind_a_settling(self):
        clashes = three()
        clashes.settle(3, "stay")
        self.assertEqual(clashes.tell(*TOLD[0]), 4)

    def test_a_clash_by_its_number(self):
        clashes = three()
        for clash in whole():
            self.assertEqual(clashes.clash(clash[0]), clash)
            self.assertIs(type(clashes.clash(clash[0])), tuple)

    def test_all_and_open_ones(self):
        clashes = three()
        self.assertEqual(clashes.all_told(), whole())
        self.assertEqual(clashes.still(), [1, 2, 3])

    def test_no_clash(self):
        clashes = three()
        for number in (0, -1, -2, -3, -4, 4, 5, 100, 10 ** 40, -10 ** 40):
            self.assert_refused("NoClash", clashes.clash, number)
        self.assertEqual(clashes.all_told(), whole())

    def test_kept_as_handed_in(self):
        # Nothing is asked of the versions and the save: the later one may be aside, they may be the same.
        odd = ((A, (1, P, "a"), (9, Q, "b"), 0), (A, (1, P, "a"), (1, P, "a"), 7),
               ((0, 3), (2, (), ""), (2, (), ""), 5),
               (C, (10 ** 40, P, " in "), (3, R, "out"), 10 ** 40),
               (C, (3, ((-5, 0, 1),) * 2000, "x" * 5000), (1, P, ""), 1))
        clashes = Clashes()
        for number, told in enumerate(odd, 1):
            self.assertEqual(clashes.tell(*told), number)
            self.assert_same(clashes.clash(number), (number,) + told + ("",))
        self.assert_same(clashes.all_told(), [(number,) + told + ("",) for number, told in enumerate(odd, 1)])


class SettleTest(RefusalCase):

    def test_each_choice(self):
        for number, choice in itertools.product((1, 3), CHOICES):
            clashes = three()
            self.assertIsNone(clashes.settle(number, choice))
            self.assertEqual(clashes.all_told(), whole([(number, choice)]))
            self.assertEqual(clashes.clash(number), whole([(number, choice)])[number - 1])
            self.assertEqual(clashes.still(), [other for other in (1, 2, 3) if other != number])

    def test_out_aside(self):
        for choice in ("stay", "turn"):
            clashes = three()
            clashes.settle(OUT_ASIDE, choice)
            self.assertEqual(clashes.all_told(), whole([(OUT_ASIDE, choice)]))

    def test_out_that_stands_is_no_trouble(self):
        clashes = three()
        clashes.settle(3, "both")
        self.assertEqual(clashes.clash(3)[5], "both")

    def test_all_in_any_order(self):
        for order in itertools.permutations((1, 2, 3)):
            clashes, settled = three(), []
            for number in order:
                choice = CHOICES[number % 3] if number != OUT_ASIDE else "turn"
                clashes.settle(number, choice)
                settled.append((number, choice))
                self.assertEqual(clashes.all_told(), whole(settled))
                self.assertEqual(clashes.still(), sorted({1, 2, 3} - {each for each, choice in settled}))


class SettleRefusedTest(RefusalCase):

    def assert_settle_refused(self, name, number, choice, settled=()):
        clashes = three()
        for each in settled:
            clashes.settle(*each)
        self.assert_refused(name, clashes.settle, number, choice)
        self.assertEqual(clashes.all_told(), whole(settled))
        self.assertEqual(clashes.still(), [each for each in (1, 2, 3) if each not in dict(settled)])

    def test_no_clash(self):
        for number, choice in itertools.product((0, -1, -3, 4, 10 ** 40), CHOICES):
            self.assert_settle_refused("NoClash", number, choice)

    def test_no_choice(self):
        for number, choice in itertools.product((1, 2, 3), NO_CHOICES):
            self.assert_settle_refused("NoChoice", number, choice)

    def test_settled(self):
        for first, choice in itertools.product(CHOICES, CHOICES):
            self.assert_settle_refused("Settled", 1, choice, [(1, first)])

    def test_no_both(self):
        self.assert_settle_refused("NoBoth", OUT_ASIDE, "both")

    def test_no_clash_ahead_of_no_choice(self):
        for number, choice in itertools.product((0, -1, 4), NO_CHOICES):
            self.assert_settle_refused("NoClash", number, choice)

    def test_no_choice_ahead_of_settled(self):
        for choice in NO_CHOICES:
            self.assert_settle_refused("NoChoice", 1, choice, [(1, "stay")])
            self.assert_settle_refused("NoChoice", OUT_ASIDE, choice, [(OUT_ASIDE, "turn")])

    def test_settled_ahead_of_no_both(self):
        for first in ("stay", "turn"):
            self.assert_settle_refused("Settled", OUT_ASIDE, "both", [(OUT_ASIDE, first)])

    def test_it_can_be_settled_behind_a_refusal(self):
        clashes = three()
        self.assert_refused("NoBoth", clashes.settle, OUT_ASIDE, "both")
        self.assert_refused("NoChoice", clashes.settle, OUT_ASIDE, "")
        clashes.settle(OUT_ASIDE, "stay")
        self.assertEqual(clashes.all_told(), whole([(OUT_ASIDE, "stay")]))


class OwnListsTest(unittest.TestCase):

    def test_lists_told(self):
        clashes = three()
        clashes.settle(1, "turn")
        for ask, told in ((clashes.all_told, whole([(1, "turn")])), (clashes.still, [2, 3])):
            one = ask()
            self.assertIs(type(one), list)
            one[0] = None
            one.append(7)
            self.assertEqual(ask(), told)
            ask().clear()
            self.assertEqual(ask(), told)
            self.assertEqual(one[1:], told[1:] + [7])

    def test_lists_told_ahead_stay(self):
        clashes = three()
        told, still = clashes.all_told(), clashes.still()
        clashes.settle(1, "stay")
        clashes.tell(*TOLD[0])
        self.assertEqual((told, still), (whole(), [1, 2, 3]))

    def test_two_share_nothing(self):
        one, other = three(), Clashes()
        self.assertEqual(other.all_told(), [])
        other.tell(*TOLD[1])
        other.settle(1, "stay")
        self.assertEqual(one.all_told(), whole())


PAIRS = [(A, (20, P, "now")), (B, (5, R, "r")), (C, (6, (), "")), ((2, 11), (7, Q, "q"))]


class ChosenTest(RefusalCase):

    def chosen(self, aside, choice, pairs=PAIRS, number=7, beat=30, settled="", stands=(9, P, "stands")):
        """What a choice does; the sheet must stay as it was."""
        sheet = Sheet(pairs)
        told = chosen((number, A, stands, aside, 3, settled), choice, sheet, beat)
        self.assertEqual(sheet.pairs(), sorted(pairs))
        self.assertIs(type(told), list)
        return told

    def test_stay(self):
        for aside in ((4, Q, "aside"), (4, (), "")):
            self.assertEqual(self.chosen(aside, "stay"), [])

    def test_turn(self):
        self.assertEqual(self.chosen((4, Q, "aside"), "turn"), [(A, (30, Q, "aside"))])
        self.assertEqual(self.chosen((4, R, ""), "turn", [], 1, 2), [(A, (2, R, ""))])

    def test_turn_where_the_version_aside_is_out(self):
        self.assertEqual(self.chosen((4, (), ""), "turn"), [(A, (30, (), ""))])

    def test_both_with_a_piece_behind(self):
        # Behind P there is Q, which begins with it: the rank goes below that of its next step.
        self.assertEqual(self.chosen((4, P, "aside"), "both"), [((0, 7), (30, P + ((-1, 0, 7),), "aside"))])
        # Behind Q there is R, which does not.
        self.assertEqual(self.chosen((4, Q, " w "), "both"), [((0, 7), (30, Q + ((0, 0, 7),), " w "))])

    def test_both_with_none_behind(self):
        self.assertEqual(self.chosen((4, R, ""), "both"), [((0, 7), (30, R + ((0, 0, 7),), ""))])
        self.assertEqual(self.chosen((4, P, "x"), "both", [], 1), [((0, 1), (30, P + ((0, 0, 1),), "x"))])

    def test_both_takes_the_least_of_several(self):
        steps = [(-4, 1, 1), (-4, 2, 1), (2, 1, 1), (9, 0, 1)]
        for order in itertools.permutations(steps):
            pairs = [((1, at), (1, P + (step,), "w")) for at, step in enumerate(order, 1)]
            self.assertEqual(self.chosen((4, P, "x"), "both", pairs), [((0, 7), (30, P + ((-5, 0, 7),), "x"))])

    def test_both_passes_over_pieces_that_are_ahead_at_the_very_place_or_out(self):
        inner = P + ((-2, 1, 9),)
        pairs = [(A, (20, P, "at the place")), (B, (5, (), "")), (C, (6, ((-9, 1, 1),), "ahead")),
                 ((3, 1), (6, inner, "behind"))]
        self.assertEqual(self.chosen((4, P, "x"), "both", pairs), [((0, 7), (30, P + ((-3, 0, 7),), "x"))])

    def test_both_with_the_own_mark_behind(self):
        # Whose piece it is that lies behind does not matter, also the clash's own.
        pairs = [(A, (20, Q, "now"))]
        self.assertEqual(self.chosen((4, P, "x"), "both", pairs), [((0, 7), (30, P + ((-1, 0, 7),), "x"))])

    def test_both_lies_behind_the_version_aside_and_ahead_of_the_next(self):
        for place in (P, Q, R, ((0, 0, 1),), P + ((-3, 1, 1),)):
            (mark, version), = self.chosen((4, place, "x"), "both")
            behind = [other[1] for each, other in PAIRS if other[1] > place]
            self.assertLess(place, version[1])
            for other in behind:
                self.assertLess(version[1], other)

    def test_what_stands_and_how_it_was_settled_do_not_matter(self):
        for settled, stands in itertools.product(("",) + CHOICES, ((9, R, "s"), (9, (), ""))):
            self.assertEqual(self.chosen((4, Q, "w"), "stay", settled=settled, stands=stands), [])
            self.assertEqual(self.chosen((4, Q, "w"), "turn", settled=settled, stands=stands), [(A, (30, Q, "w"))])
            self.assertEqual(self.chosen((4, Q, "w"), "both", settled=settled, stands=stands),
                             [((0, 7), (30, Q + ((0, 0, 7),), "w"))])

    def test_a_place_of_some_thousand_steps(self):
        long = ((0, 1, 1),) * 4000
        (mark, version), = self.chosen((4, long, "w"), "both", [(A, (1, long + ((5, 1, 1),), "next"))])
        self.assert_same(version, (30, long + ((4, 0, 7),), "w"))

    def test_no_both(self):
        self.assert_refused("NoBoth", self.chosen, (4, (), ""), "both")

    def test_no_choice(self):
        for choice in NO_CHOICES:
            self.assert_refused("NoChoice", self.chosen, (4, Q, "aside"), choice)

    def test_no_choice_ahead_of_no_both(self):
        for choice in NO_CHOICES:
            self.assert_refused("NoChoice", self.chosen, (4, (), ""), choice)

    def test_lists_told_are_the_askers_own(self):
        clash, sheet = (7, A, (9, P, "s"), (4, Q, "w"), 3, ""), Sheet(PAIRS)
        for choice in CHOICES:
            kept = list(chosen(clash, choice, sheet, 30))
            chosen(clash, choice, sheet, 30).append(None)
            self.assertEqual(chosen(clash, choice, sheet, 30), kept)


if __name__ == "__main__":
    unittest.main()
