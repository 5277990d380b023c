"""What a stretch of a row may be."""

from rangebook.errors import OutOfRow


def check_stretch(book, low, high):
    """Refuses a stretch that does not lie in the row."""
    if not 0 <= low <= high <= book.many:
        raise OutOfRow("the stretch does not lie in the row")
