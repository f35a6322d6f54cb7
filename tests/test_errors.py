"""Promise [2]: the classes of refusals."""

import unittest

from helper import NAMES, RefusalCase
from twotabs import errors


class ErrorsTest(RefusalCase):

    def test_draft_error_is_a_value_error(self):
        self.assertTrue(issubclass(errors.DraftError, ValueError))

    def test_each_class_is_there_under_draft_error(self):
        for name in NAMES:
            with self.subTest(name):
                self.assertTrue(issubclass(getattr(errors, name), errors.DraftError))

    def test_each_class_is_of_no_other_one(self):
        for name in NAMES:
            with self.subTest(name):
                made = errors.Crossed([(1, 1)]) if name == "Crossed" else getattr(errors, name)("why")
                self.assert_just(made, name)

    def test_draft_error_is_none_of_them(self):
        made = errors.DraftError("why")
        self.assertEqual([name for name in NAMES if isinstance(made, getattr(errors, name))], [])

    def test_each_class_is_caught_as_a_draft_error(self):
        for name in NAMES:
            if name != "Crossed":
                with self.subTest(name), self.assertRaises(errors.DraftError):
                    raise getattr(errors, name)("why")


class CrossedTest(RefusalCase):

    def test_tells_its_marks(self):
        with self.assertRaises(errors.Crossed) as caught:
            raise errors.Crossed([(1, 2), (1, 10), (2, 1)])
        self.assertEqual(caught.exception.marks, [(1, 2), (1, 10), (2, 1)])
        self.assertIsInstance(caught.exception.marks, list)

    def test_tells_no_marks(self):
        self.assertEqual(errors.Crossed([]).marks, [])

    def test_keeps_a_copy(self):
        marks = [(1, 1)]
        made = errors.Crossed(marks)
        marks.append((2, 2))
        self.assertEqual(made.marks, [(1, 1)])
        made.marks.append((3, 3))
        self.assertEqual(marks, [(1, 1), (2, 2)])

    def test_no_other_list_is_reached_through_it(self):
        marks = [(1, 1)]
        made = errors.Crossed(marks)
        self.assertFalse([thing for thing in made.args if thing is marks])

    def test_two_have_lists_of_their_own(self):
        marks = [(1, 1)]
        one, other = errors.Crossed(marks), errors.Crossed(marks)
        one.marks.clear()
        self.assertEqual(other.marks, [(1, 1)])


if __name__ == "__main__":
    unittest.main()
