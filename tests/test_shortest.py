"""Points 5 and 6: the least length, what forces it, a row that has it."""

import itertools
import unittest

from keepaway.shortest import force, least_length, shortest_row
from keepaway.wishes import Wish, keeps


def is_kept(counts, apart, row):
    """Point 3 in its own words, apart from the program's keeps."""
    places = {}
    for place, kind in enumerate(row):
        if kind is not None:
            places.setdefault(kind, []).append(place)
    for kind, number in enumerate(counts):
        if len(places.pop(kind, [])) != number:
            return False
    if places:
        return False
    return all(
        b - a - 1 >= apart
        for a, b in itertools.combinations(range(len(row)), 2)
        if row[a] is not None and row[a] == row[b]
    )


def is_kept_fast(counts, apart, row):
    """As is_kept, with neighbours of a kind alone, for long rows."""
    for kind, number in enumerate(counts):
        places = [place for place, found in enumerate(row) if found == kind]
        if len(places) != number:
            return False
        if any(b - a - 1 < apart for a, b in zip(places, places[1:])):
            return False
    return all(kind is None or 0 <= kind < len(counts) for kind in row)


def told_length(counts, apart):
    """Point 5 in its own words."""
    n = sum(counts)
    if n == 0:
        return 0
    m = max(counts)
    c = len([number for number in counts if number == m])
    return max(n, (m - 1) * (apart + 1) + c)


def small_wishes():
    for kinds in range(1, 4):
        for counts in itertools.product(range(4), repeat=kinds):
            for apart in range(4):
                yield list(counts), apart


def many_wishes():
    for kinds in range(1, 5):
        for counts in itertools.product(range(5), repeat=kinds):
            for apart in range(9):
                yield list(counts), apart
    for counts in itertools.combinations_with_replacement((0, 1, 3, 38, 39, 40), 6):
        mixed = list(counts[3:]) + list(counts[:3])
        for apart in (0, 1, 2, 3, 4, 5, 8):
            yield mixed, apart
    for counts in itertools.product((13, 20, 39, 40), repeat=3):
        for apart in range(9):
            yield list(counts), apart
    yield [40] * 6, 8
    yield [40], 8
    yield [0, 0, 0, 0, 0, 40], 8


class LeastLength(unittest.TestCase):
    def check(self, counts, apart, length):
        with self.subTest(counts=counts, apart=apart):
            self.assertEqual(least_length(Wish(counts, apart)), length)
            self.assertEqual(len(shortest_row(Wish(counts, apart))), length)

    def test_no_things(self):
        for kinds in range(1, 7):
            for apart in range(9):
                self.check([0] * kinds, apart, 0)

    def test_one_kind(self):
        self.check([1], 8, 1)
        self.check([2], 8, 10)
        self.check([3], 0, 3)
        self.check([40], 8, 352)

    def test_several_kinds_with_the_greatest_count(self):
        self.check([3, 3], 2, 8)
        self.check([3, 1, 3], 3, 10)
        self.check([40] * 6, 8, 357)

    def test_things_force_it(self):
        self.check([2, 2, 2, 2], 1, 8)
        self.check([3, 2, 2], 1, 7)

    def test_frame_forces_it(self):
        self.check([3, 1], 2, 7)
        self.check([4, 1, 1], 3, 13)

    def test_both_are_equal(self):
        self.check([3, 2], 1, 5)
        self.check([2, 1, 1], 2, 4)

    def test_against_the_words_of_point_5(self):
        for counts, apart in many_wishes():
            self.assertEqual(
                least_length(Wish(counts, apart)), told_length(counts, apart), (counts, apart)
            )

    def test_no_shorter_row_keeps_a_small_wish(self):
        gone_through = 0
        for counts, apart in small_wishes():
            least = least_length(Wish(counts, apart))
            signs = list(range(len(counts))) + [None]
            if len(signs) ** (least - 1) > 5000:
                continue
            gone_through += 1
            for length in range(least):
                for row in itertools.product(signs, repeat=length):
                    self.assertFalse(is_kept(counts, apart, row), (counts, apart, row))
        self.assertGreater(gone_through, 150)

    def test_every_greater_length_has_rows(self):
        for counts, apart in small_wishes():
            row = shortest_row(Wish(counts, apart))
            for more in range(1, 5):
                self.assertTrue(keeps(Wish(counts, apart), row + [None] * more))


class ShortestRow(unittest.TestCase):
    def test_no_things(self):
        self.assertEqual(shortest_row(Wish([0], 0)), [])
        self.assertEqual(shortest_row(Wish([0] * 6, 8)), [])

    def test_only_one_row_can_be(self):
        self.assertEqual(shortest_row(Wish([3], 2)), [0, None, None, 0, None, None, 0])
        self.assertEqual(shortest_row(Wish([1], 8)), [0])
        self.assertEqual(shortest_row(Wish([2, 3], 1)), [1, 0, 1, 0, 1])

    def test_keeps_the_wish_and_has_the_least_length(self):
        for counts, apart in many_wishes():
            wish = Wish(counts, apart)
            row = shortest_row(wish)
            self.assertIs(type(row), list)
            self.assertEqual(len(row), told_length(counts, apart), (counts, apart))
            self.assertTrue(is_kept_fast(counts, apart, row), (counts, apart, row))
            self.assertIs(keeps(wish, row), True, (counts, apart, row))


class Force(unittest.TestCase):
    def check(self, counts, apart, answer):
        with self.subTest(counts=counts, apart=apart):
            told = force(Wish(counts, apart))
            self.assertEqual(told, answer)
            self.assertIs(type(told), tuple)

    def test_no_things(self):
        for kinds in range(1, 7):
            for apart in range(9):
                self.check([0] * kinds, apart, ("things", 0))

    def test_more_things_than_the_frame(self):
        self.check([2, 2, 2, 2], 1, ("things", 8))
        self.check([5, 5], 0, ("things", 10))

    def test_as_many_things_as_the_frame(self):
        self.check([3, 2], 1, ("things", 5))
        self.check([1], 8, ("things", 1))
        self.check([2, 1, 1], 2, ("things", 4))

    def test_frame_greater_by_one(self):
        self.check([3, 1], 1, ("frame", [0], 5))
        self.check([2, 1], 2, ("frame", [0], 4))

    def test_frame_with_several_kinds_rising(self):
        self.check([1, 3, 0, 3], 4, ("frame", [1, 3], 12))
        self.check([40] * 6, 8, ("frame", [0, 1, 2, 3, 4, 5], 357))
        self.check([2, 5, 5, 4, 1, 5], 8, ("frame", [1, 2, 5], 39))

    def test_the_frame_kinds_are_a_list(self):
        self.assertIs(type(force(Wish([3], 2))[1]), list)

    def test_against_the_words_of_point_6(self):
        for counts, apart in many_wishes():
            n = sum(counts)
            length = told_length(counts, apart)
            expected = ("things", n)
            if length > n:
                kinds = [kind for kind, number in enumerate(counts) if number == max(counts)]
                expected = ("frame", kinds, length)
            self.assertEqual(force(Wish(counts, apart)), expected, (counts, apart))


if __name__ == "__main__":
    unittest.main()
