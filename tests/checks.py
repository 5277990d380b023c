"""Checks of all that a book tells against a plain row."""

import unittest

from rangebook.asking import first, least, place, total
from rangebook.deeds import added, filled
from rangebook.errors import Nothing, TooMany
from rangebook.rows import length, listed
from tests import pieces, plain

CHANGES = {"add": (added, plain.added, pieces.added), "fill": (filled, plain.filled, pieces.filled)}


def done(book, row, deeds):
    """The book behind adds and fills, and the plain row."""
    for word, low, high, number in deeds:
        change, plainly, _ = CHANGES[word]
        book, row = change(book, low, high, number), plainly(row, low, high, number)
    return book, row


def done_long(book, row, deeds):
    """The book behind adds and fills, and the row in pieces."""
    for word, low, high, number in deeds:
        change, _, by_pieces = CHANGES[word]
        book, row = change(book, low, high, number), by_pieces(row, low, high, number)
    return book, row


class BookCase(unittest.TestCase):
    def check_stretches(self, walk, book, row, stretches):
        """Of each stretch, what the book tells is what the walk (plain or pieces) tells of the row."""
        for low, high in stretches:
            self.assertEqual(total(book, low, high), walk.total(row, low, high), (low, high))
            if low < high:
                self.assertEqual(least(book, low, high), walk.least(row, low, high), (low, high))
                self.assertEqual(place(book, low, high), walk.place(row, low, high), (low, high))
            else:
                self.assertRaises(Nothing, least, book, low, high)
                self.assertRaises(Nothing, place, book, low, high)
            if high - low > 1000:
                self.assertRaises(TooMany, listed, book, low, high)

    def check_first(self, walk, book, row, lows, numbers):
        for low in lows:
            for number in numbers:
                for bound in [number - 1, number, number + 1]:
                    self.assertEqual(first(book, low, bound), walk.first(row, low, bound), (low, bound))

    def check(self, book, row):
        """A short row at every stretch."""
        many = len(row)
        self.assertEqual(length(book), many)
        self.check_stretches(plain, book, row, plain.stretches(many))
        for low, high in plain.stretches(many):
            self.assertEqual(listed(book, low, high), row[low:high])
        self.check_first(plain, book, row, range(many + 1), set(row) | {0})

    def check_long(self, book, row, marks):
        """A long row, in pieces, at stretches from mark to mark, and listed about each mark."""
        many = row[-1][1]
        self.assertEqual(length(book), many)
        stretches = [(low, high) for low in marks for high in marks if low <= high]
        self.check_stretches(pieces, book, row, stretches)
        for mark in marks:
            for low, high in [(mark - 2, mark + 2), (mark, mark + 1000), (mark - 1000, mark), (mark, mark)]:
                low, high = max(low, 0), min(high, many)
                self.assertEqual(listed(book, low, high), pieces.listed(row, low, high))
        numbers = sorted({number for _, _, number in row})
        self.check_first(pieces, book, row, marks, numbers[:10] + numbers[::max(1, len(numbers) // 10)])
