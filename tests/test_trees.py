"""Point 1 for trees whose numbers are not all kept one by one: even parts, and numbers added to whole parts."""

import unittest

from rangebook.asking import first, least, place, total
from rangebook.rows import length, listed
from rangebook.trees import even_tree, joined, tree_of
from tests import plain

BILLION = 10 ** 9


class AddedToParts(unittest.TestCase):
    def check(self, tree, row):
        self.assertEqual(length(tree), len(row))
        for low, high in plain.stretches(len(row)):
            self.assertEqual(listed(tree, low, high), row[low:high])
            self.assertEqual(total(tree, low, high), plain.total(row, low, high))
            if low < high:
                self.assertEqual(least(tree, low, high), plain.least(row, low, high))
                self.assertEqual(place(tree, low, high), plain.place(row, low, high))
        for low in range(len(row) + 1):
            for bound in range(-15, 16):
                self.assertEqual(first(tree, low, bound), plain.first(row, low, bound))

    def test_added_once(self):
        for more in [-5, 0, 5]:
            row = [number + more for number in [3, -1, 3, 1, 1, 1, 1]]
            self.check(joined(tree_of([3, -1, 3]), even_tree(4, 1), more), row)

    def test_added_at_each_level(self):
        low_part = joined(tree_of([2, 9, 2]), even_tree(2, 4), -6)
        high_part = joined(even_tree(3, 0), tree_of([7]), 3)
        self.check(joined(low_part, high_part, 2), [-2, 5, -2, 0, 0, 5, 5, 5, 12])

    def test_one_part_standing_twice(self):
        part = joined(tree_of([1, 0]), even_tree(1, 5), 1)
        self.check(joined(part, joined(part, part, -4), 0), [2, 1, 6, -2, -3, 2, -2, -3, 2])


class LongRows(unittest.TestCase):
    def setUp(self):
        # 8 for a billion places, then 5, 2, 5, then 4 for another billion.
        behind = joined(tree_of([6, 3, 6]), even_tree(BILLION, 5), -1)
        self.book = joined(even_tree(BILLION, 8), behind, 0)
        self.end = 2 * BILLION + 3

    def test_length(self):
        self.assertEqual(length(self.book), self.end)

    def test_total(self):
        self.assertEqual(total(self.book, 0, self.end), 12 * BILLION + 12)
        self.assertEqual(total(self.book, 1, self.end - 1), 12 * BILLION)
        self.assertEqual(total(self.book, BILLION - 1, BILLION + 2), 15)

    def test_least_and_place(self):
        for low, high, number, at in [
            (0, self.end, 2, BILLION + 1), (0, BILLION + 1, 5, BILLION), (7, BILLION, 8, 7),
            (BILLION + 2, self.end, 4, BILLION + 3), (self.end - 1, self.end, 4, self.end - 1),
        ]:
            self.assertEqual((least(self.book, low, high), place(self.book, low, high)), (number, at))

    def test_first(self):
        for low, bound, at in [
            (0, 8, 0), (9, 7, BILLION), (9, 4, BILLION + 1), (0, 1, None), (BILLION + 2, 3, None),
            (BILLION + 2, 4, BILLION + 3), (self.end - 1, 4, self.end - 1), (self.end, 9, None),
        ]:
            self.assertEqual(first(self.book, low, bound), at)

    def test_listed(self):
        self.assertEqual(listed(self.book, BILLION - 2, BILLION + 5), [8, 8, 5, 2, 5, 4, 4])
