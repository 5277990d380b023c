"""Points 1, 4, 7, 8 and 9: sums, least numbers and their places, and the first place within a bound."""

import itertools
import unittest

from rangebook.asking import first, least, place, total
from rangebook.errors import Nothing, OutOfRow
from rangebook.rows import even, length, made
from tests import plain

LONG = 10 ** 12
HUGE = 10 ** 100
THOUSAND = [at * 7919 % 1000 - 300 for at in range(1000)]


def books_of_each_kind():
    return [made([]), made([4]), made([3, -1, 2]), made(THOUSAND), even(0, 3), even(1, 3), even(7, -3), even(LONG, 3)]


class AsWalkingTheRow(unittest.TestCase):
    def check(self, book, row):
        for low, high in plain.stretches(len(row)):
            self.assertEqual(total(book, low, high), plain.total(row, low, high))
            if low < high:
                self.assertEqual(least(book, low, high), plain.least(row, low, high))
                self.assertEqual(place(book, low, high), plain.place(row, low, high))
        for low in range(len(row) + 1):
            for bound in [bound for number in row for bound in (number - 1, number, number + 1)] + [0]:
                self.assertEqual(first(book, low, bound), plain.first(row, low, bound))

    def test_every_short_row_of_few_numbers(self):
        for many in range(6):
            for row in itertools.product([-2, 0, 1], repeat=many):
                self.check(made(list(row)), list(row))

    def test_longer_rows(self):
        for many in [6, 7, 8, 9, 13, 16, 17]:
            self.check(made([at * 5 % 11 - 4 for at in range(many)]), [at * 5 % 11 - 4 for at in range(many)])

    def test_rows_that_rise_and_fall(self):
        self.check(made(list(range(-6, 6))), list(range(-6, 6)))
        self.check(made(list(range(6, -6, -1))), list(range(6, -6, -1)))

    def test_even_rows(self):
        for many in range(7):
            for number in [-3, 0, 5]:
                self.check(even(many, number), [number] * many)

    def test_numbers_larger_than_a_machine_word(self):
        row = [HUGE, -HUGE, HUGE + 1, 2 ** 64, -(2 ** 64), HUGE, -HUGE - 1, 0]
        self.check(made(list(row)), row)

    def test_thousand_places(self):
        book = made(THOUSAND)
        for low, high in [(0, 1000), (1, 1000), (0, 999), (499, 501), (250, 750), (333, 334), (998, 1000)]:
            self.assertEqual(total(book, low, high), plain.total(THOUSAND, low, high))
            self.assertEqual(least(book, low, high), plain.least(THOUSAND, low, high))
            self.assertEqual(place(book, low, high), plain.place(THOUSAND, low, high))
        for low in [0, 1, 499, 500, 501, 999, 1000]:
            for bound in range(-302, 20, 7):
                self.assertEqual(first(book, low, bound), plain.first(THOUSAND, low, bound))


class Total(unittest.TestCase):
    def test_whole_part_one_and_none(self):
        book = made([4, -7, 0, 10])
        self.assertEqual(total(book, 0, 4), 7)
        self.assertEqual(total(book, 1, 3), -7)
        self.assertEqual(total(book, 3, 4), 10)
        for low in [0, 2, 4]:
            self.assertEqual(total(book, low, low), 0)

    def test_empty_rows(self):
        self.assertEqual(total(made([]), 0, 0), 0)
        self.assertEqual(total(even(0, 9), 0, 0), 0)

    def test_long_rows(self):
        for number in [-HUGE, -5, 0, 3, HUGE]:
            book = even(LONG, number)
            self.assertEqual(total(book, 0, LONG), LONG * number)
            self.assertEqual(total(book, 1, LONG), (LONG - 1) * number)
            self.assertEqual(total(book, 10 ** 11, 10 ** 11 + 10 ** 10), 10 ** 10 * number)
            self.assertEqual(total(book, LONG - 1, LONG), number)
            for low in [0, 10 ** 11, LONG]:
                self.assertEqual(total(book, low, low), 0)

    def test_outside_is_refused(self):
        for book in books_of_each_kind():
            for low, high in plain.outside(length(book)):
                with self.assertRaises(OutOfRow):
                    total(book, low, high)


class LeastAndItsPlace(unittest.TestCase):
    def test_one_least(self):
        book = made([4, -7, 0, 10])
        self.assertEqual((least(book, 0, 4), place(book, 0, 4)), (-7, 1))
        self.assertEqual((least(book, 2, 4), place(book, 2, 4)), (0, 2))
        self.assertEqual((least(book, 3, 4), place(book, 3, 4)), (10, 3))

    def test_several_within_the_stretch(self):
        book = made([9, 2, 5, 2, 2, 9])
        self.assertEqual((least(book, 0, 6), place(book, 0, 6)), (2, 1))
        self.assertEqual((least(book, 2, 6), place(book, 2, 6)), (2, 3))
        self.assertEqual((least(book, 4, 6), place(book, 4, 6)), (2, 4))

    def test_the_same_number_or_a_lesser_one_ahead_of_the_stretch_and_behind_it(self):
        book = made([1, 3, 7, 3, 8, 3, 0])
        self.assertEqual((least(book, 2, 5), place(book, 2, 5)), (3, 3))
        self.assertEqual((least(book, 1, 3), place(book, 1, 3)), (3, 1))
        self.assertEqual((least(book, 4, 5), place(book, 4, 5)), (8, 4))

    def test_long_rows(self):
        for number in [-HUGE, 0, 3]:
            book = even(LONG, number)
            for low, high in [(0, LONG), (1, LONG), (10 ** 11, 10 ** 11 + 1), (LONG - 1, LONG)]:
                self.assertEqual((least(book, low, high), place(book, low, high)), (number, low))

    def test_no_place_has_none(self):
        for book in books_of_each_kind():
            for low in [0, length(book) // 2, length(book)]:
                with self.assertRaises(Nothing):
                    least(book, low, low)
                with self.assertRaises(Nothing):
                    place(book, low, low)

    def test_outside_is_refused_ahead_of_nothing(self):
        for book in books_of_each_kind():
            for low, high in plain.outside(length(book)):
                with self.assertRaises(OutOfRow):
                    least(book, low, high)
                with self.assertRaises(OutOfRow):
                    place(book, low, high)


class First(unittest.TestCase):
    def test_bounds_about_a_number(self):
        book = made([9, 5, 7, 5, 2])
        self.assertEqual(first(book, 0, 5), 1)
        self.assertEqual(first(book, 0, 4), 4)
        self.assertEqual(first(book, 0, 6), 1)
        self.assertEqual(first(book, 2, 5), 3)
        self.assertEqual(first(book, 2, 7), 2)
        self.assertEqual(first(book, 0, 10), 0)
        self.assertEqual(first(book, 0, 2), 4)
        self.assertIsNone(first(book, 0, 1))

    def test_what_stands_ahead_of_low_does_not_matter(self):
        book = made([0, 8, 8, 8])
        self.assertIsNone(first(book, 1, 7))
        self.assertEqual(first(book, 1, 8), 1)
        self.assertEqual(first(book, 0, 7), 0)

    def test_low_at_the_length(self):
        for book in books_of_each_kind():
            for bound in [-HUGE, 0, 3, HUGE]:
                self.assertIsNone(first(book, length(book), bound))

    def test_low_outside_is_refused(self):
        for book in books_of_each_kind():
            many = length(book)
            for low in [-1, -2, -many - 1, -HUGE, many + 1, many + 2, LONG + 1, HUGE, 10 ** 5000]:
                for bound in [-HUGE, 0, HUGE]:
                    with self.assertRaises(OutOfRow):
                        first(book, low, bound)

    def test_long_rows(self):
        book = even(LONG, -2)
        for low in [0, 1, 10 ** 11, LONG - 1]:
            self.assertEqual(first(book, low, -2), low)
            self.assertEqual(first(book, low, -1), low)
            self.assertEqual(first(book, low, HUGE), low)
            self.assertIsNone(first(book, low, -3))
            self.assertIsNone(first(book, low, -HUGE))
