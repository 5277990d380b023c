"""Answers by walking the plain row, to compare a book's answers with; and stretches to ask for."""


def total(row, low, high):
    answer = 0
    for at in range(low, high):
        answer += row[at]
    return answer


def least(row, low, high):
    answer = row[low]
    for at in range(low, high):
        if row[at] < answer:
            answer = row[at]
    return answer


def place(row, low, high):
    number = least(row, low, high)
    for at in range(low, high):
        if row[at] == number:
            return at


def first(row, low, bound):
    for at in range(low, len(row)):
        if row[at] <= bound:
            return at
    return None


def stretches(many):
    """Every stretch of a row of so many places."""
    return [(low, high) for low in range(many + 1) for high in range(low, many + 1)]


def outside(many):
    """Stretches that do not lie in a row of so many places, of every kind and of every size."""
    return [
        (-1, 0), (-1, -1), (-1, many), (-2, -1), (-(10 ** 30), 0), (-1, many + 1), (-many - 1, -1), (-1, 2000),
        (0, many + 1), (many, many + 1), (many + 1, many + 1), (many + 1, many + 2), (0, 10 ** 30),
        (1, 0), (many + 1, many), (many, -1), (many + 1, 0), (many + 3, 2), (10 ** 5000, 10 ** 5000),
    ]


def added(row, low, high, by):
    return [number + by if low <= at < high else number for at, number in enumerate(row)]


def filled(row, low, high, number):
    return [number if low <= at < high else old for at, old in enumerate(row)]


class Mixed:
    """Numbers that look mixed, and are the same at every run."""

    def __init__(self, seed):
        self.state = seed

    def below(self, many):
        """One number from 0 on, ahead of many."""
        self.state = (self.state * 6364136223846793005 + 1442695040888963407) % 2 ** 64
        return (self.state >> 11) * many >> 53


def mixed_deeds(many, count, seed):
    """So many adds and fills as tuples, at ever new places of a row; every fourth one is a fill."""
    mixed = Mixed(seed)
    deeds = []
    for at in range(count):
        low, high = sorted([mixed.below(many + 1), mixed.below(many + 1)])
        deeds.append(("fill" if at % 4 == 3 else "add", low, high, mixed.below(21) - 10))
    return deeds
