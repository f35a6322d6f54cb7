"""Promises [10] and [11]: places, their texts and their order, and the place between two."""

import itertools
import unittest

from helper import RefusalCase
from twotabs.places import between, place_text, read_place

GREAT = 10 ** 30 - 1
TOO_GREAT = 10 ** 30

PLACES = (
    (((0, 1, 1),), "0.1.1"), (((0, 0, 1),), "0.0.1"), (((7, 2, 31),), "7.2.31"), (((-1, 1, 2),), "-1.1.2"),
    (((0, 1, 1), (0, 1, 2)), "0.1.1/0.1.2"), (((-12, 3, 4), (5, 0, 6), (-1, 10, 100)), "-12.3.4/5.0.6/-1.10.100"),
    (((0, 1, 1), (0, 1, 1)), "0.1.1/0.1.1"), (((GREAT, GREAT, GREAT),), ".".join(["9" * 30] * 3)),
    (((-GREAT, 0, 1),), "-" + "9" * 30 + ".0.1"),
)

# Rising, with a step that is unlike in each of its parts, and places with which others begin.
RISING = (
    ((-10, 9, 9),), ((-2, 9, 9),), ((-1, 1, 1),), ((-1, 1, 1), (-5, 1, 1)), ((-1, 1, 1), (0, 1, 1)), ((0, 0, 9),),
    ((0, 1, 1),), ((0, 1, 1), (-1, 2, 2)), ((0, 1, 1), (-1, 2, 2), (3, 1, 4)), ((0, 1, 1), (0, 1, 1)),
    ((0, 1, 1), (10, 1, 1)), ((0, 1, 2),), ((0, 1, 10),), ((0, 2, 1),), ((0, 10, 1),), ((1, 0, 1),), ((10, 0, 1),),
)

GAPS = (
    ((), None), ((), ((0, 1, 1),)), (((0, 1, 1),), None), (((0, 1, 1),), ((0, 1, 1), (4, 1, 1))),
    (((0, 1, 1),), ((0, 1, 1), (-4, 1, 1), (2, 1, 1))), (((0, 1, 1),), ((0, 1, 2),)),
)


def long_place(many):
    return tuple([(at - 7, at, at + 1) for at in range(many)])


class TextTest(RefusalCase):

    def test_written(self):
        for place, text in PLACES:
            with self.subTest(text):
                self.assertEqual(place_text(place), text)

    def test_read(self):
        for place, text in PLACES:
            with self.subTest(text):
                self.assertEqual(read_place(text), place)

    def test_read_as_tuples(self):
        place = read_place("0.1.1/-2.0.3")
        self.assertIs(type(place), tuple)
        self.assertEqual([type(step) for step in place], [tuple, tuple])

    def test_written_and_read_again(self):
        for place in RISING:
            self.assertEqual(read_place(place_text(place)), place)

    def test_some_thousand_steps(self):
        for many in (1000, 5000):
            place = long_place(many)
            text = place_text(place)
            self.assertEqual(text.count("/"), many - 1)
            self.assert_same(text, "/".join([f"{rank}.{window}.{count}" for rank, window, count in place]))
            self.assert_same(read_place(text), place)

    def test_thirty_one_figures_are_not_written(self):
        for bad in (TOO_GREAT, -TOO_GREAT, 10 ** 5000):
            for at in range(3):
                step = tuple([bad if part == at else 1 for part in range(3)])
                for place in ((step,), ((0, 1, 1), step), (step, (0, 1, 1)), ((0, 1, 1), step, (0, 1, 1))):
                    self.assert_refused("NoText", place_text, place)

    def test_parts_beyond_their_bounds_are_written(self):
        self.assertEqual(place_text(((0, -1, 0),)), "0.-1.0")

    def assert_no_step(self, step):
        """The text is no step: refused alone, and at the head, within and at the end of others."""
        for text in (step, step + "/0.1.1", "0.1.1/" + step + "/0.1.1", "0.1.1/" + step):
            with self.subTest(text[:60]):
                self.assert_refused("NoText", read_place, text)

    def test_parts_too_few_or_too_many_are_not_read(self):
        for step in ("", "0", "1.1", "0.1.1.1", "0.1.1.1.1", "1.1.", ".1.1", "0..1", "...", "..", "."):
            self.assert_no_step(step)

    def test_empty_steps_are_not_read(self):
        for text in ("", "/", "//", "/0.1.1", "0.1.1/", "0.1.1//0.1.1", "/0.1.1/"):
            with self.subTest(text):
                self.assert_refused("NoText", read_place, text)

    def test_counts_and_windows_out_of_bounds_are_not_read(self):
        for step in ("0.1.0", "0.0.0", "0.1.-1", "0.-1.1", "0.-0.1", "0.1.-0", "-0.1.1"):
            self.assert_no_step(step)

    def test_parts_that_are_no_numbers_are_not_read(self):
        bad = ("", "-", "-0", "00", "01", "-01", "+1", "--1", " 1", "1 ", "1\n", "\t1", "1_0", "a", "1" + "0" * 30,
               "-1" + "0" * 30, "1" * 5000)
        for part in bad:
            for step in (part + ".1.1", "1." + part + ".1", "1.1." + part):
                self.assert_no_step(step)

    def test_other_signs_between_are_not_read(self):
        for text in ("0.1.1 0.1.1", "0.1.1,0.1.1", "0.1.1/ 0.1.1", "0.1.1 /0.1.1", "0.1.1\n", "\n0.1.1", "0,1,1",
                     "0/1/1", "0.1.1\\0.1.1", "-", "()"):
            with self.subTest(text):
                self.assert_refused("NoText", read_place, text)

    def test_one_bad_step_among_thousands_is_not_read(self):
        text = place_text(long_place(2000))
        self.assert_refused("NoText", read_place, text + "/0.1.0")
        self.assert_refused("NoText", read_place, "0.1/" + text)


class BetweenTest(RefusalCase):

    def test_no_place_on_either_side(self):
        self.assertEqual(between((), None, 1, 1), ((0, 1, 1),))
        self.assertEqual(between((), None, 0, 7), ((0, 0, 7),))

    def test_behind_a_place_and_ahead_of_none(self):
        self.assertEqual(between(((0, 1, 1),), None, 2, 3), ((0, 1, 1), (0, 2, 3)))
        self.assertEqual(between(((5, 1, 1), (-3, 1, 2)), None, 2, 3), ((5, 1, 1), (-3, 1, 2), (0, 2, 3)))

    def test_at_the_head_the_rank_is_one_less(self):
        for rank in (-GREAT, -10, -1, 0, 1, 2, 10, GREAT):
            with self.subTest(rank):
                self.assertEqual(between((), ((rank, 4, 5),), 1, 2), ((rank - 1, 1, 2),))
                self.assertEqual(between((), ((rank, 4, 5), (9, 9, 9)), 1, 2), ((rank - 1, 1, 2),))

    def test_high_that_begins_with_low(self):
        low = ((0, 1, 1), (3, 1, 2))
        for rank in (-7, -1, 0, 1, 7):
            for rest in ((), ((100, 1, 9),), ((-100, 1, 9), (0, 1, 1))):
                with self.subTest((rank, rest)):
                    high = low + ((rank, 8, 8),) + rest
                    self.assertEqual(between(low, high, 2, 5), low + ((rank - 1, 2, 5),))

    def test_high_that_does_not_begin_with_low(self):
        low = ((0, 1, 1), (3, 1, 2))
        for high in (((0, 1, 2),), ((0, 2, 1),), ((1, 0, 1),), ((0, 1, 1), (3, 1, 3)),
                     ((0, 1, 1), (4, 0, 1), (-9, 1, 1)), ((9, 9, 9), (9, 9, 9), (9, 9, 9), (9, 9, 9))):
            with self.subTest(high):
                self.assertEqual(between(low, high, 2, 5), low + ((0, 2, 5),))

    def test_longer_high_that_is_like_low_but_for_one_step(self):
        self.assertEqual(between(((0, 1, 1),), ((0, 1, 2), (7, 1, 1)), 1, 3), ((0, 1, 1), (0, 1, 3)))

    def test_low_the_same_as_high(self):
        for place in RISING:
            self.assert_refused("NoRoom", between, place, place, 1, 1)

    def test_low_behind_high(self):
        for high, low in itertools.combinations(RISING, 2):
            with self.subTest((low, high)):
                self.assert_refused("NoRoom", between, low, high, 1, 1)

    def test_low_that_begins_with_high(self):
        self.assert_refused("NoRoom", between, ((0, 1, 1), (-5, 1, 1)), ((0, 1, 1),), 1, 1)

    def test_low_ahead_of_high(self):
        for low, high in itertools.combinations(((),) + RISING + (None,), 2):
            with self.subTest((low, high)):
                self.assert_between(low, high, between(low, high, 5, 77), 5, 77)

    def assert_between(self, low, high, new, window, count):
        self.assertIs(type(new), tuple)
        self.assertLess(low, new)
        if high is not None:
            self.assertLess(new, high)
        self.assertEqual(new[:-1], low)
        self.assertEqual(new[-1][1:], (window, count))

    def test_ranks_may_come_out_too_great_to_be_written(self):
        new = between((), ((-GREAT, 1, 1),), 1, 2)
        self.assertEqual(new, ((-TOO_GREAT, 1, 2),))
        self.assert_refused("NoText", place_text, new)

    def test_many_behind_one_another(self):
        for first, high in GAPS:
            low = first
            for count in range(10, 60):
                new = between(low, high, 3, count)
                self.assert_between(low, high, new, 3, count)
                low = new

    def test_many_ahead_of_one_another(self):
        for low, first in GAPS:
            high = first
            for count in range(10, 60):
                new = between(low, high, 3, count)
                self.assert_between(low, high, new, 3, count)
                self.assertEqual(len(new), len(low) + 1)
                high = new

    def test_each_way_to_go_on_in_one_gap(self):
        for ways in itertools.product((True, False), repeat=8):
            low, high = (), None
            for count, upward in enumerate(ways, 1):
                new = between(low, high, count % 3, count)
                self.assert_between(low, high, new, count % 3, count)
                low, high = (new, high) if upward else (low, new)

    def test_windows_in_one_gap_make_unlike_places(self):
        low, high = ((0, 1, 1),), ((0, 1, 1), (0, 1, 2))
        made = [between(low, high, window, count) for window in (1, 2, 3) for count in (3, 4, 5)]
        self.assertEqual(made, sorted(made))
        self.assertEqual(len(set(made)), 9)

    def test_places_grow_to_some_thousand_steps(self):
        place = ()
        for count in range(1, 4001):
            place = between(place, None, 1, count)
        self.assert_same(place, tuple([(0, 1, count) for count in range(1, 4001)]))
        ahead = between(place[:-1], place, 2, 1)
        self.assert_same(ahead, place[:-1] + ((-1, 2, 1),))
        self.assertTrue(place[:-1] < ahead < place)
        self.assert_same(read_place(place_text(ahead)), ahead)
        self.assert_refused("NoRoom", between, place, place, 1, 1)


if __name__ == "__main__":
    unittest.main()
