"""Points 9 and 10: a line that is filled as things come, and taken back."""

import itertools
import unittest

from keepaway.errors import Bare, NoWish
from keepaway.line import Line


class ToldLine:
    """Points 9 and 10 in their own words: each place tried from nought on."""

    def __init__(self, apart):
        self.apart = apart
        self.things = []

    def places(self, kind):
        return [place for found, place in self.things if found == kind]

    def may_stand(self, kind, place):
        if any(taken == place for found, taken in self.things):
            return False
        alike = self.places(kind)
        if any(other > place for other in alike):
            return False
        return not alike or place - alike[-1] - 1 >= self.apart

    def put(self, kind):
        place = next(place for place in itertools.count() if self.may_stand(kind, place))
        self.things.append((kind, place))
        return place

    def row(self):
        row = [None] * (1 + max((place for kind, place in self.things), default=-1))
        for kind, place in self.things:
            row[place] = kind
        return row

    def last(self, kind):
        return max(self.places(kind), default=None)

    def back(self):
        return self.things.pop()


def mixed_kinds(many, kinds, seed):
    """Kinds in an order without a plain pattern, always the same."""
    state = seed
    told = []
    for thing in range(many):
        state = (state * 1103515245 + 12345) % 2**31
        told.append(state // 65536 % kinds)
    return told


class Filled(unittest.TestCase):
    def check(self, apart, kinds, places, row):
        with self.subTest(apart=apart, kinds=kinds):
            line = Line(apart)
            self.assertEqual([line.put(kind) for kind in kinds], places)
            self.assertEqual(line.row(), row)

    def same(self, line, told, msg):
        self.assertEqual(line.row(), told.row(), msg)
        for kind in range(26):
            self.assertEqual(line.last(kind), told.last(kind), msg)

    def test_an_empty_line(self):
        for apart in range(9):
            line = Line(apart)
            self.assertEqual(line.row(), [])
            self.assertIs(type(line.row()), list)
            for kind in range(26):
                self.assertIsNone(line.last(kind))

    def test_alike_things_stay_apart(self):
        self.check(2, [0, 0, 0], [0, 3, 6], [0, None, None, 0, None, None, 0])
        self.check(0, [4, 4, 4], [0, 1, 2], [4, 4, 4])
        self.check(8, [25, 25], [0, 9], [25] + [None] * 8 + [25])

    def test_later_kinds_fill_the_empty_places(self):
        self.check(2, [0, 0, 1, 2, 1, 3], [0, 3, 1, 2, 4, 5], [0, 1, 2, 0, 1, 3])
        self.check(3, [0, 0, 1, 1, 2], [0, 4, 1, 5, 2], [0, 1, 2, None, 0, 1])

    def test_the_first_far_enough_place_may_be_taken(self):
        self.check(1, [0, 1, 1, 2, 0, 0], [0, 1, 3, 2, 4, 6], [0, 1, 2, 1, 0, None, 0])
        self.check(1, [0, 0, 0, 1, 2, 1], [0, 2, 4, 1, 3, 5], [0, 1, 0, 2, 0, 1])

    def test_never_ahead_of_an_elder_one(self):
        # Places 1 and 2 are empty and far enough from the last one of kind 0,
        # but it would stand behind them.
        self.check(2, [0, 0, 0, 0], [0, 3, 6, 9], [0, None, None, 0, None, None, 0, None, None, 0])
        self.check(4, [0, 0, 1, 2, 1], [0, 5, 1, 2, 6], [0, 1, 2, None, None, 0, 1])

    def test_just_far_enough(self):
        for apart in range(9):
            line = Line(apart)
            self.assertEqual([line.put(7) for thing in range(4)], [step * (apart + 1) for step in range(4)])

    def test_all_kinds_up_to_25(self):
        line = Line(8)
        self.assertEqual([line.put(kind) for kind in range(26)], list(range(26)))
        self.assertEqual(line.row(), list(range(26)))
        self.assertEqual([line.last(kind) for kind in range(26)], list(range(26)))
        self.assertEqual(line.put(25), 34)
        self.assertEqual(line.put(0), 26)

    def test_last_is_the_place_of_the_last_of_that_kind(self):
        line = Line(2)
        line.put(3)
        line.put(3)
        line.put(1)
        self.assertEqual(line.last(3), 3)
        self.assertEqual(line.last(1), 1)
        self.assertIsNone(line.last(0))
        self.assertIsNone(line.last(25))

    def test_asking_does_not_change_the_line(self):
        line = Line(2)
        line.put(0)
        for kind in range(26):
            line.last(kind)
        line.row()
        self.assertEqual(line.row(), [0])
        self.assertEqual(line.put(0), 3)
        self.assertEqual(line.put(5), 1)

    def test_row_goes_up_to_the_last_place_and_not_the_last_that_came(self):
        line = Line(8)
        line.put(0)
        line.put(0)
        line.put(1)
        self.assertEqual(line.row(), [0, 1] + [None] * 7 + [0])

    def test_all_short_fillings_against_the_words_of_point_9(self):
        for apart in range(5):
            for kinds in itertools.product(range(3), repeat=6):
                line = Line(apart)
                told = ToldLine(apart)
                for kind in kinds:
                    self.assertEqual(line.put(kind), told.put(kind), (apart, kinds))
                self.same(line, told, (apart, kinds))

    def test_long_fillings_against_the_words_of_point_9(self):
        for apart in range(9):
            for number, kinds in enumerate((1, 2, 3, 5, 9, 26)):
                line = Line(apart)
                told = ToldLine(apart)
                for kind in mixed_kinds(60, kinds, 10 * apart + number):
                    self.assertEqual(line.put(kind), told.put(kind), (apart, kinds))
                self.same(line, told, (apart, kinds))

    def test_two_lines_filled_by_turns(self):
        for one, other in ((0, 8), (2, 2), (3, 1)):
            lines = [Line(one), Line(other)]
            told = [ToldLine(one), ToldLine(other)]
            for thing, kind in enumerate(mixed_kinds(80, 4, one)):
                turn = thing % 2
                self.assertEqual(lines[turn].put(kind), told[turn].put(kind), (one, other))
                self.same(lines[0], told[0], (one, other))
                self.same(lines[1], told[1], (one, other))
            while told[0].things:
                self.assertEqual(lines[0].back(), told[0].back())
                self.same(lines[1], told[1], (one, other))

    def test_places_are_whole_numbers(self):
        line = Line(1)
        self.assertIs(type(line.put(2)), int)
        self.assertIs(type(line.last(2)), int)


class NumbersApart(unittest.TestCase):
    def test_taken(self):
        for apart in range(9):
            line = Line(apart)
            line.put(0)
            self.assertEqual(line.put(0), apart + 1)

    def test_refused(self):
        for apart in (-1, 9, -8, 10, 100, -(10**5000), 10**5000):
            with self.subTest(digits=apart.bit_length()):
                self.assertRaises(NoWish, Line, apart)


class TakenBack(unittest.TestCase):
    def test_kind_and_place_of_the_last_that_came(self):
        line = Line(2)
        for kind in (0, 0, 1, 2, 1):
            line.put(kind)
        told = [line.back() for thing in range(5)]
        self.assertEqual(told, [(1, 4), (2, 2), (1, 1), (0, 3), (0, 0)])
        for each in told:
            self.assertIs(type(each), tuple)

    def test_the_last_that_came_and_not_the_one_at_the_last_place(self):
        line = Line(8)
        for kind in (0, 0, 1):
            line.put(kind)
        self.assertEqual(line.back(), (1, 1))
        self.assertEqual(line.row(), [0] + [None] * 8 + [0])
        self.assertEqual(line.back(), (0, 9))
        self.assertEqual(line.row(), [0])
        self.assertEqual(line.last(0), 0)
        self.assertIsNone(line.last(1))

    def test_row_and_last_are_as_they_were_and_the_thing_comes_there_again(self):
        for apart in range(9):
            line = Line(apart)
            for kind in mixed_kinds(40, 5, apart):
                before = (line.row(), [line.last(each) for each in range(26)])
                place = line.put(kind)
                behind = (line.row(), [line.last(each) for each in range(26)])
                self.assertEqual(line.back(), (kind, place))
                self.assertEqual((line.row(), [line.last(each) for each in range(26)]), before)
                self.assertEqual(line.put(kind), place)
                self.assertEqual((line.row(), [line.last(each) for each in range(26)]), behind)

    def test_back_to_the_empty_line(self):
        for apart in range(9):
            line = Line(apart)
            rows = []
            things = []
            for kind in mixed_kinds(40, 26, apart):
                rows.append(line.row())
                things.append((kind, line.put(kind)))
            while things:
                self.assertEqual(line.back(), things.pop())
                self.assertEqual(line.row(), rows.pop())
            self.assertEqual(line.row(), [])
            self.assertEqual([line.last(kind) for kind in range(26)], [None] * 26)

    def test_another_thing_comes_to_the_place_that_fell_empty(self):
        line = Line(3)
        line.put(0)
        line.put(1)
        self.assertEqual(line.back(), (1, 1))
        self.assertEqual(line.put(2), 1)
        self.assertEqual(line.put(1), 2)
        self.assertEqual(line.row(), [0, 2, 1])

    def test_mixed_with_putting_against_the_words_of_the_points(self):
        for apart in range(9):
            line = Line(apart)
            told = ToldLine(apart)
            for sign in mixed_kinds(150, 9, apart + 100):
                if sign > 5 and told.things:
                    self.assertEqual(line.back(), told.back())
                else:
                    self.assertEqual(line.put(sign), told.put(sign))
                self.assertEqual(line.row(), told.row())
                self.assertEqual([line.last(kind) for kind in range(9)], [told.last(kind) for kind in range(9)])

    def test_an_empty_line_refuses_and_is_as_it_was(self):
        for apart in range(9):
            line = Line(apart)
            for again in range(2):
                self.assertRaises(Bare, line.back)
                self.assertEqual(line.row(), [])
                self.assertIsNone(line.last(0))
            self.assertEqual(line.put(0), 0)
            self.assertEqual(line.put(0), apart + 1)
            line.back()
            line.back()
            self.assertRaises(Bare, line.back)
            self.assertEqual(line.row(), [])
            self.assertEqual(line.put(3), 0)
            self.assertEqual(line.back(), (3, 0))


if __name__ == "__main__":
    unittest.main()
