"""What a book tells of a stretch: the sum, the least number and its place, and the first one within a bound."""

from rangebook.errors import Nothing
from rangebook.stretches import check_stretch
from rangebook.trees import first_in, least_in, total_in


def total(book, low, high):
    """The sum of the numbers of the stretch."""
    check_stretch(book, low, high)
    return total_in(book, low, high)


def least(book, low, high):
    """The least number of the stretch."""
    check_stretch(book, low, high)
    if low == high:
        raise Nothing("no place has no least number")
    return least_in(book, low, high)


def place(book, low, high):
    """The first place of the stretch at which its least number stands."""
    # The stretch holds its least number, so the first place from low on lies in the stretch.
    return first_in(book, low, least(book, low, high))


def first(book, low, bound):
    """The first place from low on whose number is no greater than the bound; None where there is none."""
    check_stretch(book, low, book.many)
    return first_in(book, low, bound)
