"""Points 2, 3 and 4: wishes, rows that keep them, clashes."""

import itertools
import unittest

from keepaway.errors import Bare, BadText, NoRow, NoSuch, NoWish, RowError, TooGreat
from keepaway.wishes import Wish, clash, keeps


class TakenWishes(unittest.TestCase):
    def check(self, counts, apart):
        with self.subTest(counts=counts, apart=apart):
            wish = Wish(counts, apart)
            self.assertEqual(wish.counts(), counts)
            self.assertIs(type(wish.counts()), list)
            self.assertEqual(wish.apart, apart)
            self.assertEqual(wish.things(), sum(counts))

    def test_ordinary(self):
        self.check([3, 1, 2], 2)

    def test_numbers_of_kinds(self):
        for kinds in range(1, 7):
            self.check(list(range(kinds)), 3)

    def test_every_count(self):
        for number in range(41):
            self.check([number], 1)
            self.check([2, 0, 1, 5, 3, number], 1)

    def test_every_number_apart(self):
        for apart in range(9):
            self.check([4, 2], apart)

    def test_least_and_greatest_wish(self):
        self.check([0], 0)
        self.check([40] * 6, 8)

    def test_things_written_out(self):
        self.assertEqual(Wish([3, 0, 5], 2).things(), 8)
        self.assertEqual(Wish([40] * 6, 8).things(), 240)
        self.assertEqual(Wish([0, 0], 8).things(), 0)


class RefusedWishes(unittest.TestCase):
    def refused(self, counts, apart):
        with self.subTest(counts=counts, apart=apart):
            with self.assertRaises(NoWish) as caught:
                Wish(counts, apart)
            self.assertIsInstance(caught.exception, RowError)
            self.assertIsInstance(caught.exception, ValueError)
            self.assertNotIsInstance(caught.exception, (TooGreat, NoSuch, NoRow, Bare, BadText))

    def test_no_kinds(self):
        self.refused([], 0)

    def test_too_many_kinds(self):
        self.refused([1] * 7, 0)
        self.refused([0] * 7, 0)
        self.refused([1] * 30, 0)

    def test_count_out_of_bounds_at_each_place(self):
        for kinds in range(1, 7):
            for place in range(kinds):
                for number in (-1, 41, -40, 1000):
                    counts = [2] * kinds
                    counts[place] = number
                    self.refused(counts, 2)

    def test_numbers_of_very_many_digits(self):
        for number in (10**5000, -(10**5000)):
            for counts, apart in (([1, number], 0), ([1], number)):
                with self.subTest(digits=number.bit_length(), kinds=len(counts)):
                    self.assertRaises(NoWish, Wish, counts, apart)

    def test_apart_out_of_bounds(self):
        for apart in (-1, 9, -8, 100):
            self.refused([1, 2], apart)
            self.refused([0], apart)


class Keeps(unittest.TestCase):
    def check(self, counts, apart, row, answer):
        with self.subTest(counts=counts, apart=apart, row=row):
            self.assertIs(keeps(Wish(counts, apart), row), answer)

    def test_rows_that_keep(self):
        self.check([2, 1], 1, [0, 1, 0], True)
        self.check([2, 2, 2], 2, [2, 0, 1, 2, 0, 1], True)

    def test_empty_places_at_the_ends_and_within(self):
        self.check([2, 1], 1, [None, 0, 1, 0], True)
        self.check([2, 1], 1, [0, 1, 0, None, None], True)
        self.check([2, 1], 1, [None, 0, None, 0, None, 1, None], True)

    def test_a_thing_too_many(self):
        self.check([2, 1], 1, [0, 1, 0, 1], False)
        self.check([2, 0], 1, [0, 1, 0], False)
        self.check([0], 0, [0], False)

    def test_a_thing_too_few(self):
        self.check([2, 1], 1, [0, 1], False)
        self.check([2, 1], 1, [0, None, 0], False)
        self.check([2, 1], 1, [None, None, None], False)

    def test_right_sum_with_wrong_kinds(self):
        self.check([2, 1], 0, [0, 1, 1], False)

    def test_a_kind_that_the_wish_does_not_have(self):
        for kind in range(2, 26):
            self.check([2, 1], 1, [0, 1, 0, kind], False)
            self.check([2, 1], 1, [kind, 0, 1, 0], False)
            self.check([2, 1], 1, [0, kind, 0], False)
        for kind in range(6, 26):
            self.check([1] * 6, 0, [0, 1, 2, 3, 4, 5, kind], False)
        self.check([0], 0, [25], False)

    def test_a_kind_with_count_nought(self):
        self.check([1, 0, 1], 2, [2, 0], True)
        self.check([1, 0, 1], 2, [2, 1, 0], False)

    def test_just_far_enough_and_one_too_near(self):
        for apart in range(9):
            self.check([2], apart, [0] + [None] * apart + [0], True)
            if apart > 0:
                self.check([2], apart, [0] + [None] * (apart - 1) + [0], False)

    def test_the_places_between_may_be_full(self):
        self.check([2, 1, 1], 2, [0, 1, 2, 0], True)
        self.check([2, 1, 1], 3, [0, 1, 2, 0], False)

    def test_near_ones_late_in_the_row(self):
        self.check([3], 2, [0, None, None, 0, None, 0], False)
        self.check([3, 2], 2, [0, 1, None, 0, 1, None, 0], True)
        self.check([3, 2], 2, [0, 1, None, 0, 1, 0], False)

    def test_row_without_places(self):
        self.check([0], 0, [], True)
        self.check([0] * 6, 8, [], True)
        self.check([1], 0, [], False)

    def test_only_empty_places(self):
        self.check([0, 0], 8, [None] * 9, True)

    def test_row_of_400_places(self):
        row = [None] * 400
        for thing in range(40):
            row[10 * thing] = 0
            row[10 * thing + 5] = 1
        self.check([40, 40], 8, row, True)
        row[390] = None
        self.check([40, 40], 8, row, False)
        row[389] = 0
        self.check([40, 40], 8, row, True)
        row[389] = None
        row[388] = 0
        self.check([40, 40], 8, row, False)

    def test_small_rows_against_the_words_of_point_3(self):
        for counts, apart in (([1, 1], 1), ([2, 1], 1), ([2, 0], 2), ([2, 2], 1)):
            wish = Wish(counts, apart)
            for length in range(6):
                for row in itertools.product((0, 1, 2, None), repeat=length):
                    expected = (
                        row.count(0) == counts[0]
                        and row.count(1) == counts[1]
                        and row.count(2) == 0
                        and not all_clashes(row, apart)
                    )
                    self.assertIs(keeps(wish, list(row)), expected, (counts, apart, row))


def all_clashes(row, apart):
    return [
        (a, b)
        for b in range(len(row))
        for a in range(b)
        if row[a] is not None and row[a] == row[b] and b - a - 1 < apart
    ]


class Clash(unittest.TestCase):
    def check(self, row, apart, answer):
        with self.subTest(row=row, apart=apart):
            found = clash(row, apart)
            self.assertEqual(found, answer)
            if answer is None:
                self.assertIsNone(found)
            else:
                self.assertIs(type(found), tuple)

    def test_no_clash(self):
        self.check([], 3, None)
        self.check([0], 3, None)
        self.check([0, 1, 2, 0], 2, None)
        self.check([0, 1, 2, 3], 8, None)

    def test_one_clash(self):
        self.check([0, 1, 0], 2, (0, 2))
        self.check([3, None, 25, 25], 1, (2, 3))

    def test_several_clashes_with_the_same_second_place(self):
        # Two that clash with one second place clash with each other as well,
        # so the least second place has only one first place: the nearest.
        self.assertEqual(all_clashes([7, 7, 7], 5), [(0, 1), (0, 2), (1, 2)])
        self.check([7, 7, 7], 5, (0, 1))
        self.check([1, 0, 1, 0, 1], 4, (0, 2))
        self.check([0, 1, 2, 3, 0, 4, 0], 3, (4, 6))

    def test_several_second_places_tell_the_least(self):
        self.check([0, 1, 1, 0], 3, (1, 2))
        self.check([0, 1, 2, 1, 0], 9, (1, 3))
        self.check([0, 1, 0, 1], 2, (0, 2))

    def test_empty_places_never_clash(self):
        self.check([None, None, None], 8, None)
        self.check([None, 0, None, 1, None], 8, None)

    def test_nought_apart(self):
        self.check([0, 0, 0], 0, None)

    def test_far_enough_and_one_too_near(self):
        for apart in range(1, 12):
            self.check([4] + [None] * apart + [4], apart, None)
            self.check([4] + [None] * (apart - 1) + [4], apart, (0, apart))

    def test_apart_greater_than_the_row_is_long(self):
        self.check([0, 1, 2, 0], 1000, (0, 3))
        self.check([0, 1, 2, 3], 1000, None)

    def test_all_small_rows_against_the_words_of_point_4(self):
        for length in range(7):
            for row in itertools.product((0, 1, None), repeat=length):
                for apart in range(8):
                    clashes = all_clashes(row, apart)
                    expected = None
                    if clashes:
                        expected = min(clashes, key=lambda pair: (pair[1], -pair[0]))
                    self.assertEqual(clash(list(row), apart), expected, (row, apart))

    def test_long_row(self):
        row = [place % 26 for place in range(400)]
        self.check(row, 25, None)
        self.check(row, 26, (0, 26))
        row[399] = row[398]
        self.check(row, 25, (398, 399))


if __name__ == "__main__":
    unittest.main()
