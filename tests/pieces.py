"""The same answers for a row that is too long to keep: a list of pieces (low, high, number), walked from the beginning."""


def even(many, number):
    return [(0, many, number)]


def changed(row, low, high, change):
    """The row with change(number) at each place of the stretch."""
    pieces = []
    for begin, end, number in row:
        first_cut = min(max(low, begin), end)
        second_cut = min(max(high, begin), end)
        parts = [(begin, first_cut, number), (first_cut, second_cut, change(number)), (second_cut, end, number)]
        pieces += [part for part in parts if part[0] < part[1]]
    return pieces


def added(row, low, high, by):
    return changed(row, low, high, lambda number: number + by)


def filled(row, low, high, number):
    return changed(row, low, high, lambda old: number)


def within(row, low, high):
    """The pieces of the stretch."""
    return [(max(low, begin), min(high, end), number) for begin, end, number in row if begin < high and low < end]


def total(row, low, high):
    return sum((end - begin) * number for begin, end, number in within(row, low, high))


def least(row, low, high):
    return min(number for _, _, number in within(row, low, high))


def first(row, low, bound):
    for begin, end, number in row:
        if low < end and number <= bound:
            return max(low, begin)
    return None


def place(row, low, high):
    return first(row, low, least(row, low, high))


def listed(row, low, high):
    answer = []
    for begin, end, number in within(row, low, high):
        answer += [number] * (end - begin)
    return answer


def marks(many, ends):
    """Places at, beside and between the ends, and those of the whole row."""
    ends = sorted({0, many, *ends})
    found = {low + (high - low) // 2 for low, high in zip(ends, ends[1:])}
    for end in ends:
        found |= {end - 1, end, end + 1}
    return [mark for mark in sorted(found) if 0 <= mark <= many]
