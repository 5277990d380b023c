"""Points 2, 3, 4 and 10: how rows are made, that books never change, and what is listed."""

import unittest

from rangebook.asking import first, least, place, total
from rangebook.errors import NoRow, OutOfRow, TooMany
from rangebook.rows import even, length, listed, made
from tests import plain

LONG = 10 ** 12
HUGE = 10 ** 100


def told(book):
    """All that a short book tells."""
    many = length(book)
    answers = [many]
    for low, high in plain.stretches(many):
        answers.append((listed(book, low, high), total(book, low, high)))
        if low < high:
            answers.append((least(book, low, high), place(book, low, high)))
            answers.append(first(book, low, least(book, low, high)))
    return answers


class MadeOfAList(unittest.TestCase):
    def check(self, numbers):
        book = made(list(numbers))
        self.assertEqual(length(book), len(numbers))
        self.assertEqual(listed(book, 0, len(numbers)), numbers)

    def test_no_place(self):
        self.check([])

    def test_one_place(self):
        for number in [-HUGE, -1, 0, 1, HUGE]:
            self.check([number])

    def test_each_length_up_to_seventy(self):
        for many in range(71):
            self.check([at * at - 40 * at for at in range(many)])

    def test_thousand_places(self):
        self.check([at * 7919 % 1000 - 500 for at in range(1000)])
        self.check([9] * 1000)

    def test_999_places(self):
        self.check([999 - at for at in range(999)])

    def test_any_sign_and_size(self):
        self.check([HUGE, -HUGE, 0, -1, 1, 2 ** 63, -(2 ** 63) - 1, 2 ** 64 + 1, 10 ** 5000, -(10 ** 5000)])

    def test_more_than_a_thousand_numbers_are_refused(self):
        for many in [1001, 1002, 5000]:
            with self.assertRaises(NoRow):
                made([0] * many)


class EvenRows(unittest.TestCase):
    def test_no_place(self):
        for number in [-1, 0, 7, HUGE]:
            book = even(0, number)
            self.assertEqual(length(book), 0)
            self.assertEqual(listed(book, 0, 0), [])

    def test_one_place(self):
        for number in [-HUGE, -1, 0, 7, HUGE]:
            book = even(1, number)
            self.assertEqual(length(book), 1)
            self.assertEqual(listed(book, 0, 1), [number])

    def test_more_places_than_a_list_may_have(self):
        self.assertEqual(length(even(1001, 3)), 1001)

    def test_most_places(self):
        for number in [-HUGE, -1, 0, 7, HUGE]:
            book = even(LONG, number)
            self.assertEqual(length(book), LONG)
            self.assertEqual(listed(book, 0, 2), [number, number])
            self.assertEqual(listed(book, LONG - 2, LONG), [number, number])

    def test_below_nought_is_refused(self):
        for many in [-1, -2, -LONG, -(10 ** 5000)]:
            with self.assertRaises(NoRow):
                even(many, 3)

    def test_too_many_places_are_refused(self):
        for many in [LONG + 1, LONG + 2, HUGE, 10 ** 5000]:
            with self.assertRaises(NoRow):
                even(many, 3)


class NeverChanges(unittest.TestCase):
    def test_list_handed_in_stays_as_it_is(self):
        numbers = [5, -3, 5, 0, -3]
        told(made(numbers))
        self.assertEqual(numbers, [5, -3, 5, 0, -3])

    def test_list_handed_in_is_not_kept(self):
        for begun in [[], [4], [4, 4], [5, -3, 5, 0, -3], list(range(30))]:
            numbers = list(begun)
            book = made(numbers)
            before = told(book)
            for at in range(len(numbers)):
                numbers[at] = -99
            self.assertEqual(told(book), before)
            numbers.append(-100)
            self.assertEqual(told(book), before)
            numbers.clear()
            self.assertEqual(told(book), before)
            self.assertEqual(told(book), told(made(begun)))

    def test_list_that_came_back_is_the_askers_own(self):
        for book in [made([]), made([4]), made([5, -3, 5, 0]), even(0, 1), even(1, 1), even(6, 2)]:
            before = told(book)
            for low, high in plain.stretches(length(book)):
                answer = listed(book, low, high)
                for at in range(len(answer)):
                    answer[at] = -99
                answer.append(-100)
                self.assertEqual(told(book), before)

    def test_list_that_came_back_is_not_changed_later(self):
        for book in [made([]), made([4]), made([5, -3, 5, 0]), even(0, 1), even(1, 1), even(6, 2)]:
            many = length(book)
            for low, high in plain.stretches(many):
                answer = listed(book, low, high)
                copy = list(answer)
                listed(book, low, high).append(8)
                listed(book, 0, many).append(9)
                told(book)
                self.assertEqual(answer, copy)

    def test_each_list_is_a_new_one(self):
        for book in [made([]), made([4]), made([5, -3, 5, 0]), even(6, 2)]:
            many = length(book)
            self.assertIsNot(listed(book, 0, many), listed(book, 0, many))

    def test_books_of_one_list_do_not_touch(self):
        numbers = [1, 2, 3]
        one = made(numbers)
        numbers[1] = -7
        other = made(numbers)
        self.assertEqual(listed(one, 0, 3), [1, 2, 3])
        self.assertEqual(listed(other, 0, 3), [1, -7, 3])

    def test_asking_what_is_refused_changes_nothing(self):
        book = made([5, -3, 5, 0])
        before = told(book)
        for low, high in plain.outside(4):
            with self.assertRaises(OutOfRow):
                listed(book, low, high)
        self.assertEqual(told(book), before)


class Listing(unittest.TestCase):
    def test_each_stretch(self):
        for many in [0, 1, 2, 3, 7, 12]:
            row = [at * 5 % 7 - 3 for at in range(many)]
            book = made(row)
            for low, high in plain.stretches(many):
                self.assertEqual(listed(book, low, high), row[low:high])

    def test_each_stretch_of_an_even_row(self):
        book = even(9, -4)
        for low, high in plain.stretches(9):
            self.assertEqual(listed(book, low, high), [-4] * (high - low))

    def test_no_place(self):
        for low in [0, 1, 2, 3]:
            self.assertEqual(listed(made([4, 5, 6]), low, low), [])
        for low in [0, 10 ** 9, LONG]:
            self.assertEqual(listed(even(LONG, 3), low, low), [])

    def test_outside_is_refused(self):
        books = [made([]), made([4]), made(list(range(1000))), even(0, 3), even(5, 3), even(2000, 3), even(LONG, 3)]
        for book in books:
            for low, high in plain.outside(length(book)):
                with self.assertRaises(OutOfRow):
                    listed(book, low, high)

    def test_thousand_places_are_listed(self):
        row = [at * 7919 % 1000 for at in range(1000)]
        book = made(row)
        for low, high in [(0, 1000), (0, 999), (1, 1000), (0, 1), (999, 1000), (250, 251)]:
            self.assertEqual(listed(book, low, high), row[low:high])
        for begin in [0, 1, 500, 1000]:
            for many in [0, 1, 999, 1000]:
                self.assertEqual(listed(even(2000, 6), begin, begin + many), [6] * many)

    def test_thousand_places_of_a_long_row_are_listed(self):
        for begin in [0, 10 ** 11, LONG - 1000]:
            for many in [0, 1, 999, 1000]:
                self.assertEqual(listed(even(LONG, -HUGE), begin, begin + many), [-HUGE] * many)

    def test_more_places_are_refused(self):
        for many in [1001, 1002, 2000, 10 ** 6, LONG]:
            book = even(many, 3)
            with self.assertRaises(TooMany):
                listed(book, 0, many)
            with self.assertRaises(TooMany):
                listed(book, many - 1001, many)
        with self.assertRaises(TooMany):
            listed(even(LONG, 3), 10 ** 11, 10 ** 11 + 1001)

    def test_outside_is_refused_ahead_of_too_many(self):
        for low, high in [(-1, LONG), (0, LONG + 1), (-1, 1000), (-1, 1001), (LONG - 1001, LONG + 1)]:
            with self.assertRaises(OutOfRow):
                listed(even(LONG, 3), low, high)
        with self.assertRaises(OutOfRow):
            listed(made([1, 2]), 0, 2000)
