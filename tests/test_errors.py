"""The interface of keepaway/errors.py, and each refusal where it is raised."""

import unittest

from keepaway import errors
from keepaway.counting import first_row, many_rows, row_at, row_number
from keepaway.line import Line
from keepaway.notes import read
from keepaway.wishes import Wish

REFUSALS = ("NoWish", "TooGreat", "NoSuch", "NoRow", "Bare", "BadText")


class ErrorClasses(unittest.TestCase):
    def test_row_error_is_a_value_error(self):
        self.assertEqual(errors.RowError.__bases__, (ValueError,))

    def test_each_refusal_is_straight_under_row_error(self):
        for name in REFUSALS:
            with self.subTest(name=name):
                self.assertEqual(getattr(errors, name).__bases__, (errors.RowError,))

    def test_no_refusal_is_another_one(self):
        classes = [getattr(errors, name) for name in REFUSALS]
        for one in classes:
            for other in classes:
                with self.subTest(one=one, other=other):
                    self.assertEqual(issubclass(one, other), one is other)

    def test_each_refusal_is_caught_as_row_error_and_as_value_error(self):
        for name in REFUSALS:
            for caught in (errors.RowError, ValueError):
                with self.subTest(name=name, caught=caught):
                    with self.assertRaises(caught):
                        raise getattr(errors, name)("some words")


RAISED = (
    ("NoWish", lambda: Wish([], 0)),
    ("NoWish", lambda: Wish([41], 0)),
    ("NoWish", lambda: Wish([1], 9)),
    ("NoWish", lambda: Line(-1)),
    ("NoWish", lambda: Line(9)),
    ("TooGreat", lambda: many_rows(Wish([8], 0), 8)),
    ("TooGreat", lambda: first_row(Wish([1] * 5, 0), 5)),
    ("TooGreat", lambda: row_number(Wish([1], 0), [None] * 10)),
    ("TooGreat", lambda: row_at(Wish([1], 0), 10, -1)),
    ("NoSuch", lambda: row_at(Wish([1], 0), 1, 1)),
    ("NoSuch", lambda: row_at(Wish([1], 0), 1, -1)),
    ("NoRow", lambda: row_number(Wish([1], 0), [None])),
    ("NoRow", lambda: row_number(Wish([2], 1), [0, 0])),
    ("Bare", lambda: Line(0).back()),
    ("BadText", lambda: read("aB")),
)


class RaisedRefusals(unittest.TestCase):
    def test_each_is_of_its_own_class_alone(self):
        for number, (name, call) in enumerate(RAISED):
            with self.subTest(number=number, name=name):
                with self.assertRaises(ValueError) as caught:
                    call()
                self.assertIsInstance(caught.exception, errors.RowError)
                for each in REFUSALS:
                    self.assertEqual(isinstance(caught.exception, getattr(errors, each)), each == name, each)

    def test_every_refusal_is_raised_here(self):
        self.assertEqual({name for name, call in RAISED}, set(REFUSALS))


if __name__ == "__main__":
    unittest.main()
