"""Points 13 and 14: deeds done one by one."""

from rangebook.course import answers
from rangebook.deeds import added, filled
from rangebook.rows import even, listed, made
from tests import pieces, plain
from tests.checks import CHANGES, BookCase

LONG = 10 ** 12
HUGE = 10 ** 100
ROW = [4, -7, 0, 10]
WHOLE = ("list", 0, 4)


class Plainly:
    """The answers as they come of walking the plain row; the walk is plain or pieces."""

    def __init__(self, walk, row, many):
        self.walk = walk
        self.rows = [row]
        self.many = many

    def answer(self, deed):
        word, *numbers = deed
        if word == "back":
            if len(self.rows) == 1:
                return "nothing"
            self.rows.pop()
            return None
        low, high = (numbers[0], self.many) if word == "first" else numbers[:2]
        if not 0 <= low <= high <= self.many:
            return "out of row"
        if word in ("least", "place") and low == high:
            return "nothing"
        if word == "list" and high - low > 1000:
            return "too many"
        return self.done(word, numbers)

    def done(self, word, numbers):
        if word in CHANGES:
            change = self.walk.added if word == "add" else self.walk.filled
            self.rows.append(change(self.rows[-1], *numbers))
            return None
        if word == "list" and self.walk is plain:
            return self.rows[-1][numbers[0]:numbers[1]]
        return getattr(self.walk, "listed" if word == "list" else word)(self.rows[-1], *numbers)


def mixed_course(many, count, seed):
    """Deeds of every word, some of which are refused."""
    mixed = plain.Mixed(seed)
    deeds = []
    for _ in range(count):
        word = ["add", "fill", "total", "least", "place", "first", "list", "back", "add", "back"][mixed.below(10)]
        numbers = [mixed.below(many + 3) - 1, mixed.below(many + 3) - 1]
        if mixed.below(6):
            numbers = sorted(numbers)
        if word == "first":
            numbers[1] = mixed.below(61) - 30
        if word == "list" and mixed.below(3):
            numbers[1] = numbers[0] + mixed.below(1003)
        if word in CHANGES:
            numbers.append(mixed.below(21) - 10)
        deeds.append((word,) if word == "back" else (word, *numbers))
    return deeds


class CourseCase(BookCase):
    def check_course(self, deeds, expected, row=ROW):
        self.assertEqual(answers(made(row), deeds), expected)


class OneAnswerForEachDeed(CourseCase):
    def test_no_deeds(self):
        self.check_course([], [])

    def test_each_word(self):
        self.check_course(
            [("total", 0, 4), ("least", 0, 4), ("place", 0, 4), ("first", 0, 4), ("first", 0, -8), WHOLE],
            [7, -7, 1, 0, None, [4, -7, 0, 10]])
        self.check_course([("add", 1, 3, 5), WHOLE], [None, [4, -2, 5, 10]])
        self.check_course([("fill", 1, 3, 5), WHOLE], [None, [4, 5, 5, 10]])
        self.check_course([("add", 1, 3, 5), ("back",), WHOLE], [None, None, [4, -7, 0, 10]])

    def test_no_place(self):
        self.check_course([("total", 2, 2), ("list", 4, 4), ("first", 4, HUGE)], [0, [], None])

    def test_a_deed_goes_on_with_the_book_of_the_one_ahead(self):
        self.check_course(
            [("add", 0, 4, 1), ("fill", 1, 2, 9), ("add", 0, 2, HUGE), ("total", 0, 4), ("place", 0, 4), WHOLE],
            [None, None, None, 2 * HUGE + 26, 2, [5 + HUGE, 9 + HUGE, 1, 11]])

    def test_a_long_row(self):
        deeds = [
            ("add", 5, LONG, 2), ("fill", 10 ** 11, 10 ** 11 + 3, -1), ("total", 0, LONG), ("place", 0, LONG),
            ("first", 0, 4), ("first", 5, 4), ("list", 3, 7), ("list", 0, 1001), ("back",), ("least", 5, LONG),
        ]
        self.assertEqual(
            answers(even(LONG, 3), deeds),
            [None, None, 5 * LONG - 10 - 18, 10 ** 11, 0, 10 ** 11, [3, 3, 5, 5], "too many", None, 5])


class Refused(CourseCase):
    def test_out_of_row(self):
        for low, high in plain.outside(4):
            deeds = [
                ("add", low, high, 1), ("fill", low, high, 1), ("total", low, high), ("least", low, high),
                ("place", low, high), ("list", low, high), WHOLE,
            ]
            self.check_course(deeds, ["out of row"] * 6 + [ROW])
        for low in [-1, 5, -HUGE, HUGE]:
            self.check_course([("first", low, 100)], ["out of row"])

    def test_nothing(self):
        for low in [0, 2, 4]:
            self.check_course([("least", low, low), ("place", low, low), ("back",)], ["nothing"] * 3)
        self.check_course([("back",), ("total", 0, 0), ("least", 0, 0)], ["nothing", 0, "nothing"], [])

    def test_too_many(self):
        deeds = [("list", 0, 1001), ("list", 0, LONG), ("list", 0, LONG + 1), ("list", 7, 1007)]
        self.assertEqual(answers(even(LONG, 3), deeds), ["too many", "too many", "out of row", [3] * 1000])

    def test_changes_nothing(self):
        deeds = [
            ("add", 0, 2, 1), ("add", 0, 5, 1), ("fill", -1, 2, 9), ("least", 3, 3), ("list", 2, 1), ("add", 3, 2, 1),
            WHOLE, ("back",), WHOLE, ("back",), WHOLE,
        ]
        self.check_course(deeds, [
            None, "out of row", "out of row", "nothing", "out of row", "out of row",
            [5, -6, 0, 10], None, ROW, "nothing", ROW])


class Backs(CourseCase):
    def test_without_an_add_or_fill(self):
        self.check_course([("back",), ("back",), WHOLE], ["nothing", "nothing", ROW])
        self.check_course([("total", 0, 4), ("list", 0, 1), ("back",)], [7, [4], "nothing"])
        self.check_course([("add", 0, 5, 1), ("fill", 2, 1, 1), ("back",)], ["out of row", "out of row", "nothing"])

    def test_what_was_asked_or_refused_between_does_not_matter(self):
        between = [
            ("total", 0, 4), ("least", 0, 0), ("place", 0, 4), ("first", 9, 0), ("list", 0, 4), ("add", 0, 9, 1),
            ("fill", -1, 2, 3), ("add", 2, 1, 1),
        ]
        for change in [("add", 1, 3, 5), ("fill", 1, 3, 5)]:
            for many in range(len(between) + 1):
                found = answers(made(ROW), [change] + between[:many] + [("back",), WHOLE, ("back",)])
                self.assertEqual(found[-3:], [None, ROW, "nothing"])

    def test_of_an_add_of_nought_and_of_no_place(self):
        for deed in [("add", 0, 4, 0), ("add", 2, 2, 5), ("add", 0, 0, 5), ("add", 4, 4, 0), ("fill", 2, 2, 5),
                     ("fill", 4, 4, 5), ("fill", 1, 2, -7)]:
            self.check_course(
                [("add", 0, 1, 6), deed, ("back",), WHOLE, ("back",), WHOLE, ("back",)],
                [None, None, None, [10, -7, 0, 10], None, ROW, "nothing"])
        self.check_course([("add", 0, 0, 5), ("fill", 0, 0, 5)] + [("back",)] * 3, [None] * 4 + ["nothing"], [])

    def test_as_many_as_deeds_and_one_more(self):
        deeds = [("add", 0, 4, 1), ("fill", 0, 2, 8), ("add", 1, 3, -5)]
        rows = [ROW, [5, -6, 1, 11], [8, 8, 1, 11], [8, 3, -4, 11]]
        self.check_course(
            deeds + [WHOLE, ("back",)] * 3 + [WHOLE, ("back",), WHOLE],
            [None] * 3 + [rows[3], None, rows[2], None, rows[1], None, rows[0], "nothing", rows[0]])

    def test_an_add_behind_a_back_and_a_back_of_that(self):
        self.check_course(
            [("add", 0, 4, 1), ("fill", 0, 1, 50), ("back",), ("add", 0, 1, 100), WHOLE, ("back",), WHOLE, ("back",),
             WHOLE, ("back",)],
            [None, None, None, None, [105, -6, 1, 11], None, [5, -6, 1, 11], None, ROW, "nothing"])

    def test_a_back_that_is_refused_leaves_what_comes_behind_as_it_is(self):
        self.check_course(
            [("back",), ("add", 0, 1, 1), ("back",), ("back",), ("add", 0, 1, 2), WHOLE, ("back",), WHOLE],
            ["nothing", None, None, "nothing", None, [6, -7, 0, 10], None, ROW])

    def test_not_beyond_the_book_that_was_handed_in(self):
        book = filled(added(made(ROW), 0, 4, 1), 0, 2, 9)
        deeds = [("back",), WHOLE, ("add", 0, 4, 1), ("back",), ("back",), WHOLE]
        self.assertEqual(
            answers(book, deeds), ["nothing", [9, 9, 1, 11], None, None, "nothing", [9, 9, 1, 11]])


class HandedInAndGiven(CourseCase):
    def test_book_and_deeds_stay_as_they_are(self):
        book = made(ROW)
        deeds = [("add", 0, 4, 5), ("back",), ("back",), ("fill", 1, 3, 2), WHOLE, ("list", 3, 1)]
        copy = list(deeds)
        found = answers(book, deeds)
        self.assertEqual(deeds, copy)
        self.check(book, ROW)
        self.assertEqual(answers(book, deeds), found)
        self.check(book, ROW)

    def test_lists_among_the_answers_are_the_askers_own(self):
        book = made(ROW)
        found = answers(book, [WHOLE, WHOLE, ("add", 0, 4, 0), WHOLE, ("back",), WHOLE])
        lists = [found[at] for at in (0, 1, 3, 5)]
        for at, answer in enumerate(lists):
            self.assertEqual(answer, ROW)
            answer[0] = 99 + at
            answer.append(-1)
        self.assertEqual(answers(book, [WHOLE]), [ROW])
        self.assertEqual(listed(book, 0, 4), ROW)

    def test_answers_are_a_new_list(self):
        for deeds in [[], [("total", 0, 4)]]:
            found = answers(made(ROW), deeds)
            self.assertIs(type(found), list)
            self.assertIsNot(found, deeds)


class MixedCourses(CourseCase):
    def test_short_rows(self):
        for many in [0, 1, 2, 6, 13]:
            for seed in range(6):
                row = [at * 5 % 11 - 4 for at in range(many)]
                deeds = mixed_course(many, 300, seed)
                walked = Plainly(plain, row, many)
                self.check_course(deeds, [walked.answer(deed) for deed in deeds], row)

    def test_long_rows(self):
        for many in [13, 1500, LONG]:
            for seed in range(4):
                deeds = mixed_course(many, 400, seed)
                walked = Plainly(pieces, pieces.even(many, 2), many)
                self.assertEqual(answers(even(many, 2), deeds), [walked.answer(deed) for deed in deeds])

    def test_some_thousands_of_deeds_and_as_many_backs(self):
        deeds = plain.mixed_deeds(LONG, 4000, 12)
        asked = [("total", 0, LONG), ("list", 0, 2), ("list", LONG - 2, LONG)]
        walked = Plainly(pieces, pieces.even(LONG, 3), LONG)
        course = []
        for at, deed in enumerate(deeds):
            course += [deed] + (asked if at % 400 == 0 else [])
        for at in range(len(deeds)):
            course += [("back",)] + (asked if at % 400 == 0 else [])
        course += [("back",)] + asked
        found = answers(even(LONG, 3), course)
        self.assertEqual(found, [walked.answer(deed) for deed in course])
        self.assertEqual(found[-4:], ["nothing", 3 * LONG, [3, 3], [3, 3]])

    def test_the_same_deed_some_thousands_of_times(self):
        for low, high in [(0, LONG), (7, LONG - 9), (5, 5)]:
            many = 6000
            deeds = [("add", low, high, 2)] * many + [("total", 0, LONG)] + [("back",)] * many + [("total", 0, LONG)]
            found = answers(even(LONG, 1), deeds + [("back",)])
            self.assertEqual(found[many], LONG + 2 * many * (high - low))
            self.assertEqual(found[-2:], [LONG, "nothing"])
            self.assertEqual(found[:many] + found[many + 1:-2], [None] * (2 * many))

    def test_a_list_behind_some_thousands_of_deeds(self):
        row = [at * 7919 % 1000 - 300 for at in range(1000)]
        deeds = plain.mixed_deeds(1000, 3000, 13) + [("list", 0, 1000), ("place", 0, 1000)]
        walked = Plainly(plain, row, 1000)
        self.check_course(deeds, [walked.answer(deed) for deed in deeds], row)
