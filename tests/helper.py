"""What the tests share: how a refusal is asked for."""

import unittest

from twotabs import errors

NAMES = (
    "NoText", "NoRoom", "NoSheet", "NoPiece", "NoWords", "NoCut", "NoStretch", "NoDeed", "Unfit", "NoSave",
    "NoClash", "NoChoice", "Settled", "NoBoth", "NoName", "Opened", "NoWindow", "NoBuilt", "NoPaper", "NoRow",
    "Crossed",
)


class RefusalCase(unittest.TestCase):
    """A test case that knows what a refusal must be."""

    def assert_just(self, error, name):
        """The error is of the class of this name and DraftError, and of no other class of the interface."""
        self.assertIsInstance(error, errors.DraftError)
        self.assertIsInstance(error, ValueError)
        of = [each for each in NAMES if isinstance(error, getattr(errors, each))]
        self.assertEqual(of, [name])

    def assert_refused(self, name, call, *things):
        """The call is refused with just the class of this name; tells the error."""
        with self.assertRaises(ValueError) as caught:
            call(*things)
        self.assert_just(caught.exception, name)
        return caught.exception

    def assert_same(self, one, other):
        """The two are the same; for great ones, of which assertEqual would reckon the difference for minutes."""
        self.assertTrue(one == other, "they are unlike")
