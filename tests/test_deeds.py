"""Points 1 and 3 to 10: adding and filling, and what books tell behind it."""

import itertools

from rangebook.asking import total
from rangebook.deeds import added, filled
from rangebook.errors import OutOfRow
from rangebook.rows import even, length, listed, made
from tests import pieces, plain
from tests.checks import BookCase, done, done_long

LONG = 10 ** 12
HUGE = 10 ** 100
NUMBERS = [7, 1, 0, -1, -9, HUGE, -HUGE]
ROW = [3, -1, 4, 1, -5, 9, -2, 6]
# The whole row, its beginning, its end, its middle, one place, and no place.
SHORT_STRETCHES = [(0, 8), (0, 3), (5, 8), (2, 6), (0, 1), (4, 5), (7, 8), (0, 0), (4, 4), (8, 8)]
LONG_STRETCHES = [
    (0, LONG), (0, 10 ** 11), (LONG - 10 ** 11, LONG), (3 * 10 ** 11, 7 * 10 ** 11), (0, 1), (10 ** 11, 10 ** 11 + 1),
    (LONG - 1, LONG), (1, LONG - 1), (0, 0), (10 ** 11, 10 ** 11), (LONG, LONG),
]
# Two stretches that overlap, lie one in the other, lie side by side, lie apart, begin or end alike, are the same.
SHORT_PAIRS = [
    ((0, 5), (3, 8)), ((1, 7), (3, 5)), ((0, 4), (4, 8)), ((0, 2), (5, 8)), ((1, 6), (1, 4)), ((1, 6), (3, 6)),
    ((2, 6), (2, 6)), ((0, 8), (2, 3)), ((2, 3), (0, 8)), ((3, 3), (0, 8)),
]
LONG_PAIRS = [
    ((5, 6 * 10 ** 11), (10 ** 11, LONG)), ((10, LONG - 10), (10 ** 11, 10 ** 11 + 3)), ((0, 333), (333, LONG)),
    ((0, 2), (LONG - 7, LONG)), ((4, 10 ** 9), (4, 10 ** 6)), ((4, 10 ** 9), (10 ** 6, 10 ** 9)),
    ((7, 10 ** 11), (7, 10 ** 11)), ((0, LONG), (10 ** 11, 2 * 10 ** 11)), ((10 ** 11, 2 * 10 ** 11), (0, LONG)),
]
PAIRS_OF_WORDS = list(itertools.product(["add", "fill"], repeat=2))


class OneDeed(BookCase):
    def test_each_kind_of_stretch_of_a_list(self):
        for word in ["add", "fill"]:
            for low, high in SHORT_STRETCHES:
                for number in NUMBERS:
                    self.check(*done(made(ROW), ROW, [(word, low, high, number)]))

    def test_each_kind_of_stretch_of_a_short_even_row(self):
        for word in ["add", "fill"]:
            for low, high in SHORT_STRETCHES:
                for number in NUMBERS:
                    self.check(*done(even(8, -1), [-1] * 8, [(word, low, high, number)]))

    def test_each_kind_of_stretch_of_a_long_row(self):
        for word in ["add", "fill"]:
            for low, high in LONG_STRETCHES:
                for number in NUMBERS:
                    book, row = done_long(even(LONG, 2), pieces.even(LONG, 2), [(word, low, high, number)])
                    self.check_long(book, row, pieces.marks(LONG, [low, high]))

    def test_every_stretch_of_every_length(self):
        for many in [0, 1, 2, 3, 5, 11]:
            row = [at * 5 % 7 - 3 for at in range(many)]
            for low, high in plain.stretches(many):
                for word in ["add", "fill"]:
                    self.check(*done(made(row), row, [(word, low, high, -4)]))
                    self.check(*done(even(many, 2), [2] * many, [(word, low, high, -4)]))

    def test_as_numbers(self):
        book = made([4, -7, 0, 10])
        self.assertEqual(listed(added(book, 1, 3, 5), 0, 4), [4, -2, 5, 10])
        self.assertEqual(listed(filled(book, 1, 3, 5), 0, 4), [4, 5, 5, 10])
        self.assertEqual(total(added(even(LONG, 3), 0, LONG, HUGE), 0, LONG), LONG * (3 + HUGE))
        self.assertEqual(total(filled(even(LONG, 3), 1, LONG, -2), 0, LONG), 3 - 2 * (LONG - 1))

    def test_thousand_numbers(self):
        row = [at * 7919 % 1000 - 300 for at in range(1000)]
        for word in ["add", "fill"]:
            book, changed = done(made(row), row, [(word, 123, 876, -1000)])
            marks = pieces.marks(1000, [123, 876])
            self.check_stretches(plain, book, changed, itertools.combinations(marks, 2))
            self.assertEqual(listed(book, 0, 1000), changed)


class TwoDeeds(BookCase):
    def test_pairs_of_stretches_of_a_list(self):
        for words in PAIRS_OF_WORDS:
            for stretches in SHORT_PAIRS:
                for numbers in [(2, 3), (-2, 3), (5, -5), (HUGE, -HUGE - 1), (0, -4)]:
                    deeds = [(word, low, high, number) for word, (low, high), number in zip(words, stretches, numbers)]
                    self.check(*done(made(ROW), ROW, deeds))

    def test_pairs_of_stretches_of_a_long_row(self):
        for words in PAIRS_OF_WORDS:
            for stretches in LONG_PAIRS:
                for numbers in [(2, 3), (5, -5), (-HUGE, HUGE + 1)]:
                    deeds = [(word, low, high, number) for word, (low, high), number in zip(words, stretches, numbers)]
                    book, row = done_long(even(LONG, -1), pieces.even(LONG, -1), deeds)
                    self.check_long(book, row, pieces.marks(LONG, [end for stretch in stretches for end in stretch]))


class MixedDeeds(BookCase):
    def test_a_short_row_behind_each_deed(self):
        for many in [1, 2, 6, 13]:
            for seed in range(4):
                row = [at * 5 % 11 - 4 for at in range(many)]
                book = made(row)
                for deed in plain.mixed_deeds(many, 25, seed):
                    book, row = done(book, row, [deed])
                    self.check(book, row)

    def test_a_short_even_row_behind_many_deeds(self):
        for seed in range(4):
            self.check(*done(even(17, 5), [5] * 17, plain.mixed_deeds(17, 200, seed)))

    def test_fills_over_adds_and_adds_over_fills(self):
        deeds = [
            ("add", 0, 8, 5), ("add", 2, 6, -3), ("fill", 1, 5, 4), ("add", 3, 8, 2), ("fill", 4, 5, -HUGE),
            ("add", 0, 8, HUGE), ("fill", 6, 6, 99), ("add", 4, 5, 0), ("fill", 0, 2, 0), ("add", 1, 3, -1),
        ]
        for many in range(1, len(deeds) + 1):
            self.check(*done(made(ROW), ROW, deeds[:many]))

    def test_a_long_row_behind_many_deeds(self):
        for seed in range(4):
            deeds = plain.mixed_deeds(LONG, 12, seed)
            book, row = done_long(even(LONG, 3), pieces.even(LONG, 3), deeds)
            self.check_long(book, row, pieces.marks(LONG, [end for deed in deeds for end in deed[1:3]]))

    def test_a_long_row_whose_deeds_lie_close_together(self):
        for begin in [0, 10 ** 11 - 7, LONG - 20]:
            deeds = [(word, begin + low, begin + high, by) for word, low, high, by in plain.mixed_deeds(20, 12, begin)]
            book, row = done_long(even(LONG, 3), pieces.even(LONG, 3), deeds)
            self.check_long(book, row, pieces.marks(LONG, [end for deed in deeds for end in deed[1:3]]))


class ManyDeeds(BookCase):
    """Some thousands of deeds, one on the other."""

    def check_long_sparsely(self, deeds):
        book, row = done_long(even(LONG, 3), pieces.even(LONG, 3), deeds)
        ends = sorted({end for deed in deeds for end in deed[1:3]})
        self.check_long(book, row, pieces.marks(LONG, ends[::1 + len(ends) // 6]))

    def check_list_sparsely(self, deeds):
        row = [at * 7919 % 1000 - 300 for at in range(1000)]
        book, row = done(made(row), row, deeds)
        self.assertEqual(listed(book, 0, 1000), row)
        marks = pieces.marks(1000, range(0, 1000, 125))
        self.check_stretches(plain, book, row, itertools.combinations(marks, 2))
        self.check_first(plain, book, row, marks, sorted(set(row))[:20])

    def test_ever_new_places_of_a_long_row(self):
        self.check_long_sparsely(plain.mixed_deeds(LONG, 2500, 5))

    def test_adds_alone_at_ever_new_places_of_a_long_row(self):
        deeds = [("add", low, high, by) for _, low, high, by in plain.mixed_deeds(LONG, 1500, 6)]
        self.check_long_sparsely(deeds)

    def test_stretches_of_a_long_row_that_lie_one_in_the_other(self):
        self.check_long_sparsely([("add", at, LONG - at, (-1) ** at * at) for at in range(1500)])

    def test_stretches_of_a_long_row_that_begin_ever_further_on(self):
        self.check_long_sparsely([("fill", at, LONG, at * 31 % 17) for at in range(2000)])

    def test_the_same_stretch_of_a_long_row(self):
        for low, high in [(0, LONG), (7, LONG - 10 ** 11), (10 ** 11, 10 ** 11 + 1), (5, 5)]:
            self.check_long_sparsely([("add", low, high, at % 7 - 3) for at in range(5000)])
            self.check_long_sparsely([("fill", low, high, at % 7 - 3) for at in range(5000)])
            self.check_long_sparsely([("add" if at % 2 else "fill", low, high, at) for at in range(5000)])

    def test_ever_new_places_of_a_list(self):
        self.check_list_sparsely(plain.mixed_deeds(1000, 4000, 7))

    def test_the_same_stretch_of_a_list(self):
        for low, high in [(0, 1000), (123, 876), (500, 501), (500, 500)]:
            self.check_list_sparsely([("add", low, high, at % 7 - 3) for at in range(3000)])
            self.check_list_sparsely([("add" if at % 2 else "fill", low, high, at) for at in range(3000)])


class NeverChanges(BookCase):
    def test_books_of_one_book_and_books_of_those(self):
        row = [5, -3, 5, 0, -3, 8]
        known = [(made(row), row)]
        for at, deed in enumerate(plain.mixed_deeds(6, 40, 9)):
            known.append(done(*known[at * 7 % len(known)], [deed]))
        # Books of the first one, behind everything else that was made of it.
        for deed in [("add", 0, 6, 1), ("fill", 2, 4, 9), ("add", 3, 3, 4), ("add", 0, 6, 0)]:
            known.append(done(*known[0], [deed]))
        for book, row in known[::-1] + known[::3] + known:
            self.check(book, row)

    def test_long_books_of_one_book_and_books_of_those(self):
        known = [(even(LONG, 4), pieces.even(LONG, 4))]
        deeds = plain.mixed_deeds(LONG, 12, 10)
        for at, deed in enumerate(deeds):
            known.append(done_long(*known[at * 7 % len(known)], [deed]))
        marks = pieces.marks(LONG, [end for deed in deeds[::4] for end in deed[1:3]])
        for book, row in known[::-1] + known:
            self.check_long(book, row, marks)

    def test_lists_that_came_back_are_the_askers_own(self):
        row = [5, -3, 5, 0, -3, 8]
        known = [(made(row), row)]
        for deed in plain.mixed_deeds(6, 12, 11):
            known.append(done(*known[-1], [deed]))
            for book, _ in known:
                answer = listed(book, 0, 6)
                answer[2:4] = [-99]
                answer.append(77)
        for book, row in known:
            self.check(book, row)

    def test_lists_that_came_back_are_not_changed_later(self):
        book = added(made([1, 2, 3, 4]), 1, 3, 5)
        answer = listed(book, 0, 4)
        filled(added(book, 0, 4, 2), 0, 4, 0)
        listed(book, 0, 4).clear()
        self.assertEqual(answer, [1, 7, 8, 4])

    def test_each_deed_gives_another_book(self):
        for book in [made([]), made([4, 5]), even(LONG, 3), added(even(9, 1), 2, 5, 1)]:
            for change in [added, filled]:
                for low, high in [(0, 0), (0, length(book)), (length(book), length(book))]:
                    for number in [0, 3]:
                        self.assertIsNot(change(book, low, high, number), book)


class OutsideTheRow(BookCase):
    def test_is_refused(self):
        books = [
            made([]), made([4]), made(ROW), made([0] * 1000), even(0, 3), even(5, 3), even(LONG, 3),
            added(made(ROW), 2, 6, 1), filled(even(LONG, 3), 5, 10 ** 11, 1), added(made([]), 0, 0, 1),
        ]
        for book in books:
            for low, high in plain.outside(length(book)):
                for number in [0, 5, -HUGE]:
                    self.assertRaises(OutOfRow, added, book, low, high, number)
                    self.assertRaises(OutOfRow, filled, book, low, high, number)

    def test_what_is_refused_changes_nothing(self):
        book = added(made(ROW), 2, 6, 1)
        for low, high in plain.outside(8):
            self.assertRaises(OutOfRow, added, book, low, high, 5)
            self.assertRaises(OutOfRow, filled, book, low, high, 5)
        self.check(book, plain.added(ROW, 2, 6, 1))
