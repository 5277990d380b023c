"""Notes: deeds written as texts, and read from them."""

from rangebook.errors import NoDeed

FIGURES = "0123456789"

# How many numbers stand behind the word of a deed.
HOW_MANY = {"add": 3, "fill": 3, "total": 2, "least": 2, "place": 2, "first": 2, "list": 2, "back": 0}


def shown(deed):
    """The text of a deed."""
    return " ".join([str(part) for part in deed])


def read(line):
    """The deed of a text."""
    # A split at each single blank leaves an empty word where there are blanks more, and no number is empty.
    word, *texts = line.split(" ")
    if word not in HOW_MANY:
        raise NoDeed("there is no deed of this word")
    if len(texts) != HOW_MANY[word]:
        raise NoDeed("the deed has too few or too many numbers")
    numbers = [number_of(text) for text in texts]
    return (word, *numbers)


def number_of(text):
    """The whole number of a text."""
    # Looked at first, for int() takes more than may be written: blanks, signs and figures of other kinds.
    if not is_number(text):
        raise NoDeed("a number is not written as it must be")
    return int(text)


def is_number(text):
    """Whether a number is written as it must be, in the one way that there is for it."""
    figures = text.removeprefix("-")
    if figures == "" or any([sign not in FIGURES for sign in figures]):
        return False
    return figures[0] != "0" or text == "0"
