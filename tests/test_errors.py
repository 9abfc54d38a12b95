"""The refusals: their classes and how they stand to each other."""

import unittest

from momentwright import errors

NAMES = ("NoFraction", "NoPolynomial", "NoSums", "NoFlock", "NoWalk", "NoSum", "NoDeed", "NoText", "NoRow")


class TestErrors(unittest.TestCase):
    def test_the_root_is_a_value_error(self):
        self.assertEqual(errors.MomentError.__bases__, (ValueError,))

    def test_each_stands_straight_under_the_root(self):
        for name in NAMES:
            self.assertEqual(getattr(errors, name).__bases__, (errors.MomentError,), name)

    def test_no_two_are_one(self):
        self.assertEqual(len({getattr(errors, name) for name in NAMES}), len(NAMES))

    def test_each_is_made_with_a_text(self):
        for name in NAMES + ("MomentError",):
            self.assertEqual(str(getattr(errors, name)("why it is so")), "why it is so", name)


if __name__ == "__main__":
    unittest.main()
