"""The interface of keepaway/errors.py."""

import unittest

from keepaway import errors

REFUSALS = ("NoWish", "TooGreat", "NoSuch", "NoRow", "Bare", "BadText")


class ErrorClasses(unittest.TestCase):
    def test_row_error_is_a_value_error(self):
        self.assertEqual(errors.RowError.__bases__, (ValueError,))

    def test_each_refusal_is_straight_under_row_error(self):
        for name in REFUSALS:
            with self.subTest(name=name):
                self.assertEqual(getattr(errors, name).__bases__, (errors.RowError,))

    def test_no_refusal_is_another_one(self):
        classes = [getattr(errors, name) for name in REFUSALS]
        for one in classes:
            for other in classes:
                with self.subTest(one=one, other=other):
                    self.assertEqual(issubclass(one, other), one is other)

    def test_each_refusal_is_caught_as_row_error_and_as_value_error(self):
        for name in REFUSALS:
            for caught in (errors.RowError, ValueError):
                with self.subTest(name=name, caught=caught):
                    with self.assertRaises(caught):
                        raise getattr(errors, name)("some words")


if __name__ == "__main__":
    unittest.main()
