"""Deeds: numbers added over a stretch, and stretches filled with one number."""

from rangebook.stretches import check_stretch
from rangebook.trees import added_in, filled_in


def added(book, low, high, by):
    """The book whose row has by more at each place of the stretch."""
    check_stretch(book, low, high)
    return added_in(book, low, high, by)


def filled(book, low, high, number):
    """The book whose row has the number at each place of the stretch."""
    check_stretch(book, low, high)
    return filled_in(book, low, high, number)
