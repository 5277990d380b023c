"""Rows: how a book is made, how long its row is, and what stands there."""

from rangebook.errors import NoRow, TooMany
from rangebook.stretches import check_stretch
from rangebook.trees import even_tree, numbers_in, tree_of

MOST_PLACES = 10 ** 12
MOST_GIVEN = 1000
MOST_LISTED = 1000

# The messages of the errors name no number: Python refuses to write out a very long one.


def made(numbers):
    """The book of a list of whole numbers."""
    if len(numbers) > MOST_GIVEN:
        raise NoRow("the list has too many numbers")
    return tree_of(numbers)


def even(many, number):
    """The book of a row with the number at each of so many places."""
    if many < 0 or many > MOST_PLACES:
        raise NoRow("a row has 0 to 10 ** 12 places")
    return even_tree(many, number)


def length(book):
    """How many places the row has."""
    return book.many


def listed(book, low, high):
    """The list of the numbers of the stretch."""
    check_stretch(book, low, high)
    if high - low > MOST_LISTED:
        raise TooMany("the stretch has too many places to be listed")
    return numbers_in(book, low, high)
