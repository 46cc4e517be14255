"""The classes of refusals, as the interface tells them."""

import unittest

from tests.helper import REFUSALS
from wishmoor.errors import MoorError


class Classes(unittest.TestCase):
    def test_any_refusal_is_a_value_error(self):
        self.assertEqual(MoorError.__bases__, (ValueError,))

    def test_each_refusal_stands_straight_under_moor_error(self):
        for refusal in REFUSALS:
            with self.subTest(refusal=refusal.__name__):
                self.assertEqual(refusal.__bases__, (MoorError,))

    def test_there_are_six_of_them_with_their_names(self):
        self.assertEqual(len(set(REFUSALS)), 6)
        names = [refusal.__name__ for refusal in REFUSALS]
        self.assertEqual(names, ["NoQuay", "NoRow", "NoOutcome", "NoTree", "NoRank", "NoNote"])

    def test_each_can_be_raised_and_taken_as_moor_error(self):
        for refusal in REFUSALS:
            with self.subTest(refusal=refusal.__name__):
                with self.assertRaises(MoorError):
                    raise refusal("words")


if __name__ == "__main__":
    unittest.main()
