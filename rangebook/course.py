"""A course: deeds done one by one."""

from rangebook.asking import first, least, place, total
from rangebook.deeds import added, filled
from rangebook.errors import Nothing, OutOfRow, TooMany
from rangebook.rows import listed


def answers(book, deeds):
    """The list of the answers to deeds that are done one by one, beginning with the book."""
    # The last book is the one to go on with; those ahead of it are what backs go back to.
    books = [book]
    found = []
    for deed in deeds:
        found.append(answer(books, deed))
    return found


def answer(books, deed):
    """The answer to a deed; a text where it is refused."""
    try:
        return done(books, deed)
    except OutOfRow:
        return "out of row"
    except Nothing:
        return "nothing"
    except TooMany:
        return "too many"


def done(books, deed):
    """The answer to a deed that is not refused."""
    match deed:
        case ("add", low, high, by):
            books.append(added(books[-1], low, high, by))
        case ("fill", low, high, number):
            books.append(filled(books[-1], low, high, number))
        case ("back",):
            go_back(books)
        case _:
            return told(books[-1], deed)
    return None


def go_back(books):
    """Takes the last add or fill back."""
    if len(books) == 1:
        raise Nothing("there is no add or fill to take back")
    books.pop()


def told(book, deed):
    """What a book tells a deed that asks."""
    match deed:
        case ("total", low, high):
            return total(book, low, high)
        case ("least", low, high):
            return least(book, low, high)
        case ("place", low, high):
            return place(book, low, high)
        case ("first", low, bound):
            return first(book, low, bound)
        case ("list", low, high):
            return listed(book, low, high)
