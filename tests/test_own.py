"""Point 1: what is handed in stays as it was, what is told is the asker's own."""

import ast
import builtins
import pathlib
import unittest

import keepaway
from keepaway.counting import first_row, many_rows, row_at, row_number
from keepaway.errors import BadText, NoRow, NoWish
from keepaway.line import Line
from keepaway.notes import read, shown
from keepaway.shortest import force, least_length, shortest_row
from keepaway.wishes import Wish, clash, keeps

PACKAGE = pathlib.Path(keepaway.__file__).parent

PLAIN_NAMES = (
    "len range enumerate zip min max sum abs sorted reversed int str bool list tuple dict set frozenset "
    "isinstance ord repr any all divmod ValueError KeyError IndexError LookupError ZeroDivisionError "
    "StopIteration Exception"
).split()

ROWS = (
    [],
    [0, 1, 2, 0, None, 1, 0],
    [0, 0, None],
    [None, 25, 25],
)


def answers(wish):
    return [
        wish.counts(),
        wish.apart,
        wish.things(),
        least_length(wish),
        force(wish),
        shortest_row(wish),
        [keeps(wish, list(row)) for row in ROWS],
        many_rows(wish, 9),
        first_row(wish, 9),
        row_at(wish, 9, 0) if many_rows(wish, 9) > 0 else None,
    ]


class HandedIn(unittest.TestCase):
    def test_counts_are_not_changed(self):
        counts = [3, 2, 1]
        answers(Wish(counts, 2))
        self.assertEqual(counts, [3, 2, 1])

    def test_refused_counts_are_not_changed(self):
        for counts in ([], [1] * 7, [1, 41]):
            before = list(counts)
            with self.assertRaises(NoWish):
                Wish(counts, 2)
            self.assertEqual(counts, before)

    def test_rows_are_not_changed(self):
        wish = Wish([3, 2, 1], 2)
        for row in ROWS:
            handed = list(row)
            keeps(wish, handed)
            clash(handed, 2)
            shown(handed)
            self.assertEqual(handed, row)

    def test_numbered_and_refused_rows_are_not_changed(self):
        wish = Wish([3, 1], 1)
        row = [0, 1, 0, None, 0]
        row_number(wish, row)
        self.assertEqual(row, [0, 1, 0, None, 0])
        row = [0, 1, None, 0]
        with self.assertRaises(NoRow):
            row_number(wish, row)
        self.assertEqual(row, [0, 1, None, 0])

    def test_later_change_of_a_numbered_row(self):
        wish = Wish([1, 1], 0)
        row = row_at(wish, 3, 4)
        self.assertEqual(row_number(wish, row), 4)
        row.reverse()
        self.assertEqual(row_number(wish, row), 2)
        self.assertEqual(row_at(wish, 3, 4), [None, 0, 1])

    def test_later_change_of_a_written_row(self):
        row = [0, None, 1]
        text = shown(row)
        row[0] = 25
        self.assertEqual(text, "a.b")
        self.assertEqual(shown(row), "z.b")

    def test_later_change_of_counts_ahead_of_counting(self):
        counts = [1, 1]
        wish = Wish(counts, 0)
        counts[0] = 2
        self.assertEqual(many_rows(wish, 3), 6)
        self.assertEqual(first_row(wish, 3), [0, 1, None])
        self.assertEqual(row_at(wish, 3, 5), [None, 1, 0])
        self.assertEqual(row_number(wish, [None, 1, 0]), 5)

    def test_asking_does_not_change_the_wish(self):
        wish = Wish([3, 2, 1], 2)
        before = answers(wish)
        self.assertEqual(answers(wish), before)

    def test_later_change_of_counts_changes_no_answer(self):
        counts = [3, 2, 1]
        wish = Wish(counts, 2)
        before = answers(wish)
        counts[0] = 9
        counts.append(4)
        self.assertEqual(answers(wish), before)
        self.assertEqual(wish.counts(), [3, 2, 1])
        self.assertEqual(wish.things(), 6)

    def test_later_change_ahead_of_the_first_question(self):
        counts = [3, 2, 1]
        wish = Wish(counts, 2)
        counts.clear()
        self.assertEqual(wish.counts(), [3, 2, 1])
        self.assertEqual(force(Wish([3], 2)), ("frame", [0], 7))

    def test_later_change_of_a_row_is_seen_by_the_next_question_alone(self):
        wish = Wish([2], 1)
        row = [0, None, 0]
        self.assertIs(keeps(wish, row), True)
        found = clash(row, 2)
        row[1] = 0
        self.assertEqual(found, (0, 2))
        self.assertIs(keeps(wish, row), False)
        self.assertEqual(clash(row, 2), (0, 1))

    def test_one_list_for_two_wishes(self):
        counts = [2, 1]
        first = Wish(counts, 1)
        counts[0] = 5
        second = Wish(counts, 1)
        self.assertEqual(first.counts(), [2, 1])
        self.assertEqual(second.counts(), [5, 1])


class Told(unittest.TestCase):
    def spoil(self, told):
        told.append(7)
        told[0] = 99
        told.reverse()

    def test_counts_may_be_changed(self):
        wish = Wish([3, 2, 1], 2)
        before = answers(wish)
        self.spoil(wish.counts())
        self.assertEqual(answers(wish), before)

    def test_force_may_be_changed(self):
        wish = Wish([3, 1, 3], 4)
        before = answers(wish)
        self.spoil(force(wish)[1])
        self.assertEqual(answers(wish), before)
        self.assertEqual(force(wish), ("frame", [0, 2], 12))

    def test_shortest_row_may_be_changed(self):
        for counts in ([3, 1, 3], [2, 2, 2], [1]):
            wish = Wish(counts, 2)
            before = answers(wish)
            self.spoil(shortest_row(wish))
            self.assertEqual(answers(wish), before)

    def test_shortest_row_of_no_things_may_be_changed(self):
        wish = Wish([0], 2)
        shortest_row(wish).append(5)
        self.assertEqual(shortest_row(wish), [])
        self.assertEqual(shortest_row(Wish([0, 0], 0)), [])

    def test_counted_rows_may_be_changed(self):
        for counts in ([3, 1], [2, 2], [0]):
            wish = Wish(counts, 1)
            before = answers(wish)
            last = many_rows(wish, 9) - 1
            told = row_at(wish, 9, last)
            number = row_number(wish, told)
            kept = list(told)
            self.spoil(told)
            self.spoil(first_row(wish, 9))
            self.spoil(row_at(wish, 9, 0))
            self.assertEqual(answers(wish), before)
            self.assertEqual(row_at(wish, 9, last), kept)
            self.assertEqual(row_number(wish, kept), number)

    def test_row_of_length_nought_may_be_changed(self):
        wish = Wish([0], 0)
        first_row(wish, 0).append(5)
        row_at(wish, 0, 0).append(6)
        self.assertEqual(first_row(wish, 0), [])
        self.assertEqual(row_at(wish, 0, 0), [])

    def test_read_rows_may_be_changed(self):
        self.spoil(read("ab.a"))
        self.assertEqual(read("ab.a"), [0, 1, None, 0])
        read("").append(3)
        self.assertEqual(read(""), [])
        with self.assertRaises(BadText):
            read("ab?")
        self.assertEqual(read("ab"), [0, 1])

    def test_no_two_lists_are_one(self):
        wish = Wish([3], 2)
        line = Line(2)
        line.put(1)
        told = [wish.counts(), wish.counts(), force(wish)[1], force(wish)[1]]
        told += [shortest_row(wish), shortest_row(wish)]
        told += [first_row(wish, 7), first_row(wish, 7), row_at(wish, 7, 0), row_at(wish, 7, 0)]
        told += [read("a.b"), read("a.b"), line.row(), line.row()]
        self.assertEqual(len({id(each) for each in told}), len(told))


class ToldByALine(unittest.TestCase):
    def test_row_may_be_changed(self):
        line = Line(1)
        line.put(0)
        line.put(0)
        told = line.row()
        told[1] = 9
        told.append(4)
        told[0] = None
        self.assertEqual(line.row(), [0, None, 0])
        self.assertEqual(line.last(0), 2)
        self.assertEqual(line.put(1), 1)
        self.assertEqual(line.put(0), 4)
        self.assertEqual(line.back(), (0, 4))
        self.assertEqual(line.row(), [0, 1, 0])

    def test_row_of_an_empty_line_may_be_changed(self):
        line = Line(1)
        line.row().append(3)
        self.assertEqual(line.row(), [])
        self.assertEqual(Line(1).row(), [])
        self.assertEqual(line.put(3), 0)

    def test_row_told_earlier_stays_when_things_come_and_go(self):
        line = Line(1)
        line.put(0)
        line.put(0)
        first = line.row()
        line.put(1)
        second = line.row()
        line.put(2)
        line.back()
        line.back()
        line.back()
        self.assertEqual(first, [0, None, 0])
        self.assertEqual(second, [0, 1, 0])
        self.assertEqual(line.row(), [0])


class NothingFromOutside(unittest.TestCase):
    def trees(self):
        files = sorted(PACKAGE.rglob("*.py"))
        self.assertGreater(len(files), 6)
        for file in files:
            yield file.name, ast.parse(file.read_text(encoding="ascii"))

    def test_only_own_modules_are_imported(self):
        for name, tree in self.trees():
            for node in ast.walk(tree):
                self.assertNotIsInstance(node, ast.Import, name)
                if isinstance(node, ast.ImportFrom):
                    self.assertTrue(node.module.startswith("keepaway."), (name, node.module))

    def test_only_plain_names_of_pythons_own_are_used(self):
        for name, tree in self.trees():
            for node in ast.walk(tree):
                if isinstance(node, ast.Name) and hasattr(builtins, node.id):
                    self.assertIn(node.id, PLAIN_NAMES, name)


if __name__ == "__main__":
    unittest.main()
