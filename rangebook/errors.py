"""The refusals of a book, one class for each kind."""


class BookError(ValueError):
    """Any refusal."""


class NoRow(BookError):
    """There can be no row of so many places."""


class OutOfRow(BookError):
    """The stretch, or the place to begin at, does not lie in the row."""


class Nothing(BookError):
    """There is nothing at no place, or nothing to take back."""


class TooMany(BookError):
    """The stretch has too many places to be listed."""


class NoDeed(BookError):
    """The text is not that of a deed."""
