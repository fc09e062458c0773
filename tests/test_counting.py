"""Points 7 and 8: all rows of a length that keep a wish, in their order."""

import itertools
import time
import unittest

from keepaway.counting import first_row, many_rows, row_at, row_number
from keepaway.errors import NoRow, NoSuch, TooGreat
from keepaway.shortest import least_length
from keepaway.wishes import Wish


def stays_apart(row, apart):
    return not any(
        row[a] is not None and row[a] in row[a + 1 : a + 1 + apart] for a in range(len(row))
    )


def order_key(row):
    """Point 7 in its own words: the lesser kind first, an empty place last."""
    return [(kind is None, kind or 0) for kind in row]


def all_rows(counts, apart, length):
    """Every row of that length gone through, those that keep the wish in order."""
    signs = [None] + list(range(len(counts)))
    found = [
        list(row)
        for row in itertools.product(signs, repeat=length)
        if all(row.count(kind) == number for kind, number in enumerate(counts))
        and stays_apart(row, apart)
    ]
    return sorted(found, key=order_key)


def placed_rows(counts, apart, length):
    """The same rows, made kind by kind, for lengths that are too great to go through."""
    rows = [[None] * length]
    for kind, number in enumerate(counts):
        fuller = []
        for row in rows:
            empty = [place for place in range(length) if row[place] is None]
            for places in itertools.combinations(empty, number):
                fuller.append([kind if place in places else row[place] for place in range(length)])
        rows = [row for row in fuller if stays_apart(row, apart)]
    return sorted(rows, key=order_key)


def small_wishes():
    for kinds in range(1, 5):
        for counts in itertools.product(range(4), repeat=kinds):
            if sum(counts) <= 5 and not (kinds == 4 and max(counts) > 2):
                for apart in (0, 1, 2, 4, 8):
                    yield list(counts), apart


def small_questions():
    """Wishes and lengths of which all rows can be gone through."""
    for counts, apart in small_wishes():
        for length in range(7):
            if (len(counts) + 1) ** length <= 1100:
                yield counts, apart, length


GREATEST = (
    ([2, 2, 2, 1], 0),
    ([1, 2, 2, 2], 1),
    ([2, 2, 2, 1], 2),
    ([2, 1, 2, 2], 3),
    ([2, 1, 2, 2], 4),
    ([3, 2, 1, 1], 2),
    ([4, 1, 1, 1], 1),
    ([1, 1, 1, 4], 0),
    ([0, 0, 0, 7], 0),
    ([0, 3, 4, 0], 1),
    ([2, 2, 2, 1], 8),
)


class Asking(unittest.TestCase):
    def check_all(self, counts, apart, length, rows):
        wish = Wish(counts, apart)
        asked = (counts, apart, length)
        many = many_rows(wish, length)
        self.assertIs(type(many), int, asked)
        self.assertEqual(many, len(rows), asked)
        self.assertEqual(first_row(wish, length), rows[0] if rows else None, asked)
        for number, row in enumerate(rows):
            told = row_at(wish, length, number)
            self.assertIs(type(told), list, asked)
            self.assertEqual(told, row, asked)
            found = row_number(wish, list(row))
            self.assertIs(type(found), int, asked)
            self.assertEqual(found, number, asked)
        for number in (-1, -len(rows), -len(rows) - 1, len(rows), len(rows) + 1):
            if not 0 <= number < len(rows):
                with self.assertRaises(NoSuch, msg=(asked, number)):
                    row_at(wish, length, number)


class Order(Asking):
    def test_lesser_kinds_first_and_empty_places_last(self):
        self.check_all([1, 1], 0, 3, [
            [0, 1, None],
            [0, None, 1],
            [1, 0, None],
            [1, None, 0],
            [None, 0, 1],
            [None, 1, 0],
        ])

    def test_the_first_place_that_differs_decides(self):
        self.check_all([2, 1], 1, 4, [
            [0, 1, 0, None],
            [0, 1, None, 0],
            [0, None, 0, 1],
            [0, None, 1, 0],
            [1, 0, None, 0],
            [None, 0, 1, 0],
        ])

    def test_kinds_stand_by_their_numbers_and_not_by_their_counts(self):
        self.check_all([1, 2], 0, 3, [[0, 1, 1], [1, 0, 1], [1, 1, 0]])

    def test_a_greater_kind_is_still_ahead_of_an_empty_place(self):
        wish = Wish([0, 0, 0, 1], 0)
        self.assertEqual([row_at(wish, 2, number) for number in (0, 1)], [[3, None], [None, 3]])

    def test_first_row(self):
        self.assertEqual(first_row(Wish([2, 2], 1), 4), [0, 1, 0, 1])
        self.assertEqual(first_row(Wish([2, 2], 1), 6), [0, 1, 0, 1, None, None])
        self.assertEqual(first_row(Wish([2], 3), 7), [0, None, None, None, 0, None, None])
        # The lesser kind cannot always be first.
        self.assertEqual(first_row(Wish([1, 2], 1), 3), [1, 0, 1])

    def test_first_row_is_a_list_or_none(self):
        self.assertIs(type(first_row(Wish([1], 0), 1)), list)
        self.assertIs(type(first_row(Wish([0], 0), 0)), list)
        self.assertIsNone(first_row(Wish([1], 0), 0))
        self.assertIsNone(first_row(Wish([2], 8), 9))
        self.assertIsNone(first_row(Wish([2, 1], 2), 3))


class AllRows(Asking):
    def test_all_small_rows_gone_through(self):
        asked = 0
        for counts, apart, length in small_questions():
            asked += 1
            self.check_all(counts, apart, length, all_rows(counts, apart, length))
        self.assertGreater(asked, 2000)

    def test_rows_that_do_not_keep_a_small_wish(self):
        for counts, apart in (([1, 1], 0), ([2, 1], 1), ([2], 2), ([0, 2], 1), ([0], 0)):
            wish = Wish(counts, apart)
            for length in range(5):
                kept = all_rows(counts, apart, length)
                for row in itertools.product((0, 1, 2, 25, None), repeat=length):
                    if list(row) not in kept:
                        with self.assertRaises(NoRow, msg=(counts, apart, row)):
                            row_number(wish, list(row))

    def test_no_things(self):
        for kinds in range(1, 5):
            for apart in (0, 1, 8):
                for length in range(10):
                    self.check_all([0] * kinds, apart, length, [[None] * length])

    def test_length_nought(self):
        self.check_all([0], 0, 0, [[]])
        self.check_all([1], 0, 0, [])
        self.check_all([0, 0, 2, 0], 8, 0, [])

    def test_no_empty_place(self):
        self.check_all([1, 1, 1], 2, 3, [list(row) for row in itertools.permutations(range(3))])
        self.check_all([3, 2], 1, 5, [[0, 1, 0, 1, 0]])

    def test_below_and_at_the_least_length(self):
        for counts, apart in small_wishes():
            wish = Wish(counts, apart)
            for length in range(10):
                many = many_rows(wish, length)
                if length < least_length(wish):
                    self.check_all(counts, apart, length, [])
                else:
                    self.assertGreater(many, 0, (counts, apart, length))

    def test_many_empty_places(self):
        self.check_all([1], 8, 9, [[None] * place + [0] + [None] * (8 - place) for place in range(9)])
        for counts, apart in (([2], 0), ([2], 6), ([1, 1], 3), ([2, 1], 4), ([0, 0, 1, 1], 0)):
            self.check_all(counts, apart, 9, placed_rows(counts, apart, 9))

    def test_counts_that_can_be_reckoned(self):
        self.assertEqual(many_rows(Wish([2, 2, 2, 1], 0), 9), 22680)
        self.assertEqual(many_rows(Wish([7], 0), 9), 36)
        self.assertEqual(many_rows(Wish([1, 1, 1, 1], 8), 9), 3024)
        self.assertEqual(many_rows(Wish([2], 7), 9), 1)
        self.assertEqual(many_rows(Wish([2], 8), 9), 0)
        self.assertEqual(many_rows(Wish([5], 1), 9), 1)

    def test_asking_again_and_in_turns_tells_the_same(self):
        one = Wish([2, 1], 1)
        other = Wish([2, 1], 2)
        for again in range(2):
            self.assertEqual(many_rows(one, 4), 6)
            self.assertEqual(many_rows(other, 4), 2)
            self.assertEqual(row_at(one, 4, 5), [None, 0, 1, 0])
            self.assertEqual(row_at(other, 4, 1), [0, None, 1, 0])


class Greatest(Asking):
    def test_some_numbers_of_the_greatest_wishes(self):
        for counts, apart in GREATEST:
            wish = Wish(counts, apart)
            for length in (8, 9):
                rows = placed_rows(counts, apart, length)
                self.assertEqual(many_rows(wish, length), len(rows), (counts, apart))
                self.assertEqual(first_row(wish, length), rows[0] if rows else None)
                step = max(1, len(rows) // 40)
                for number in list(range(0, len(rows), step)) + [len(rows) - 1] * bool(rows):
                    asked = (counts, apart, length, number)
                    self.assertEqual(row_at(wish, length, number), rows[number], asked)
                    self.assertEqual(row_number(wish, rows[number]), number, asked)
                with self.assertRaises(NoSuch):
                    row_at(wish, length, len(rows))

    def test_without_waiting_long(self):
        # A wide bound: going through all rows of 9 places would take minutes.
        began = time.monotonic()
        for counts, apart in GREATEST:
            wish = Wish(counts, apart)
            many = many_rows(wish, 9)
            if many > 0:
                row = row_at(wish, 9, many - 1)
                self.assertEqual(row_number(wish, row), many - 1)
                self.assertEqual(row_number(wish, first_row(wish, 9)), 0)
        self.assertLess(time.monotonic() - began, 10)


class TooGreatOnes(unittest.TestCase):
    def refused(self, wish, length):
        """All four calls refuse, whatever the row or the number is."""
        calls = [lambda: many_rows(wish, length), lambda: first_row(wish, length)]
        for number in (0, 1, -1, 10**6, 10**5000):
            calls.append(lambda number=number: row_at(wish, length, number))
        if length <= 400:
            for sign in (None, 0, 25):
                calls.append(lambda sign=sign: row_number(wish, [sign] * length))
        # The first call that does not refuse ends the test: the next may run long.
        for which, call in enumerate(calls):
            with self.assertRaises(TooGreat, msg=(wish.counts(), wish.apart, length, which)):
                call()

    def taken(self, counts, apart, length):
        with self.subTest(counts=counts, apart=apart, length=length):
            wish = Wish(counts, apart)
            rows = placed_rows(counts, apart, length)
            self.assertEqual(many_rows(wish, length), len(rows))
            self.assertEqual(first_row(wish, length), rows[0])
            self.assertEqual(row_at(wish, length, len(rows) - 1), rows[-1])
            self.assertEqual(row_number(wish, rows[-1]), len(rows) - 1)

    def test_7_things_are_taken_and_8_refused(self):
        self.taken([7], 0, 7)
        self.taken([4, 3], 1, 8)
        self.taken([2, 2, 2, 1], 2, 9)
        for counts in ([8], [0, 8], [4, 4], [2, 2, 2, 2], [40] * 4):
            for length in range(10):
                self.refused(Wish(counts, 0), length)
                self.refused(Wish(counts, 8), length)

    def test_a_row_that_keeps_too_great_a_wish(self):
        for row, wish in (
            ([0] * 8, Wish([8], 0)),
            ([0, 1] * 4, Wish([4, 4], 1)),
            ([4], Wish([0, 0, 0, 0, 1], 0)),
            ([0] + [None] * 9, Wish([1], 0)),
        ):
            with self.subTest(row=row):
                self.assertRaises(TooGreat, row_number, wish, row)

    def test_4_kinds_are_taken_and_5_refused(self):
        self.taken([1, 1, 1, 1], 2, 5)
        self.taken([0, 0, 0, 1], 2, 5)
        for counts in ([1] * 5, [0] * 5, [1, 0, 0, 0, 0], [0, 0, 0, 0, 1], [1, 1, 1, 0, 1], [0] * 6, [1] * 6):
            for length in (0, 1, 5, 6, 9):
                self.refused(Wish(counts, 1), length)

    def test_length_9_is_taken_and_10_refused(self):
        self.taken([2, 1], 3, 9)
        self.taken([0], 0, 9)
        for counts in ([0], [1], [2, 1], [2, 2, 2, 1], [7]):
            for length in (10, 11, 40, 400, 10**9):
                self.refused(Wish(counts, 3), length)

    def test_all_bounds_passed_at_once(self):
        self.refused(Wish([2] * 5, 0), 10)
        self.refused(Wish([40] * 6, 8), 400)


class NoSuchNumber(unittest.TestCase):
    def refused(self, counts, apart, length, number):
        with self.subTest(counts=counts, apart=apart, length=length, number=number):
            self.assertRaises(NoSuch, row_at, Wish(counts, apart), length, number)

    def test_below_nought(self):
        for number in (-1, -2, -6, -7, -100):
            self.refused([1, 1], 0, 3, number)
        self.refused([0], 0, 0, -1)

    def test_the_number_of_all_rows_and_above(self):
        for number in (6, 7, 100):
            self.refused([1, 1], 0, 3, number)
        self.refused([0], 0, 0, 1)

    def test_where_there_are_no_rows(self):
        for number in (-1, 0, 1):
            self.refused([2], 8, 9, number)
            self.refused([1], 0, 0, number)

    def test_numbers_of_very_many_digits(self):
        self.refused([1, 1], 0, 3, 10**5000)
        self.refused([1, 1], 0, 3, -(10**5000))


class NoRowOfTheWish(unittest.TestCase):
    def refused(self, counts, apart, row):
        with self.subTest(counts=counts, apart=apart, row=row):
            self.assertRaises(NoRow, row_number, Wish(counts, apart), row)

    def test_too_near(self):
        self.refused([2], 1, [0, 0])
        self.refused([2, 1], 2, [0, 1, 0])

    def test_wrong_counts(self):
        self.refused([2], 0, [0])
        self.refused([2], 0, [0, 0, 0])
        self.refused([1], 0, [])
        self.refused([0], 0, [0])
        self.refused([1, 1], 0, [0, 0])

    def test_other_kinds(self):
        self.refused([1], 0, [1])
        self.refused([1], 0, [0, 25])
        self.refused([1, 1], 0, [0, 1, 2])


if __name__ == "__main__":
    unittest.main()
