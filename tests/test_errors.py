"""The refusals: their names, their one base, and the field of two of them."""

import unittest

from framepost import errors
from framepost.errors import Cut, FrameError, NoLetter, NoRow, NoRule, Refused, Unread

REFUSALS = (Refused, Cut, Unread, NoLetter, NoRule, NoRow)


class Errors(unittest.TestCase):
    def test_the_base_of_all_refusals_is_a_value_error(self):
        self.assertEqual(FrameError.__bases__, (ValueError,))

    def test_each_refusal_stands_straight_under_the_base(self):
        for refusal in REFUSALS:
            with self.subTest(refusal=refusal.__name__):
                self.assertEqual(refusal.__bases__, (FrameError,))

    def test_no_refusal_stands_under_another_one(self):
        for one in REFUSALS:
            for other in REFUSALS:
                if one is not other:
                    self.assertFalse(issubclass(one, other))

    def test_the_classes_are_called_as_they_are_imported(self):
        for name in ("FrameError", "Refused", "Cut", "Unread", "NoLetter", "NoRule", "NoRow"):
            self.assertEqual(getattr(errors, name).__name__, name)

    def test_refused_and_cut_have_their_number(self):
        for refusal in (Refused, Cut):
            for at in (0, 1, 29999):
                with self.assertRaises(refusal) as caught:
                    raise refusal(at)
                self.assertEqual(caught.exception.at, at)

    def test_the_others_can_be_raised_with_words(self):
        for refusal in (Unread, NoLetter, NoRule, NoRow):
            with self.assertRaises(FrameError):
                raise refusal("words")


if __name__ == "__main__":
    unittest.main()
