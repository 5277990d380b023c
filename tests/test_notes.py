"""Points 11 and 12: deeds written as texts, and read from them."""

import unittest

from rangebook.errors import NoDeed
from rangebook.notes import read, shown

WORDS = {"add": 3, "fill": 3, "total": 2, "least": 2, "place": 2, "first": 2, "list": 2, "back": 0}
SIXTY = int("9" * 60)
NUMBERS = [0, 1, -1, 9, 10, -10, 100, 1234567890, -(2 ** 64), 10 ** 12, 10 ** 59, -(10 ** 59), SIXTY, -SIXTY]


def deeds_of_each_word():
    """Deeds in which each number stands at each place."""
    for word, many in WORDS.items():
        for at in range(len(NUMBERS)):
            yield (word, *[NUMBERS[(at + step * 5) % len(NUMBERS)] for step in range(many)])


class Written(unittest.TestCase):
    def test_each_word(self):
        for deed, line in [
            (("add", 0, 12, -5), "add 0 12 -5"), (("fill", 3, 4, 0), "fill 3 4 0"), (("total", 0, 7), "total 0 7"),
            (("least", 1, 2), "least 1 2"), (("place", 5, 5), "place 5 5"), (("first", 10, -1), "first 10 -1"),
            (("list", 0, 1000), "list 0 1000"), (("back",), "back"),
        ]:
            self.assertEqual(shown(deed), line)
            self.assertEqual(read(line), deed)

    def test_sixty_figures(self):
        self.assertEqual(shown(("first", 10 ** 59, -SIXTY)), "first 1" + "0" * 59 + " -" + "9" * 60)

    def test_each_number(self):
        for deed in deeds_of_each_word():
            self.assertEqual(shown(deed), " ".join(map(str, deed)))


class Read(unittest.TestCase):
    def refused(self, *lines):
        for line in lines:
            with self.assertRaises(NoDeed, msg=repr(line)):
                read(line)

    def test_what_is_written(self):
        for deed in deeds_of_each_word():
            back = read(shown(deed))
            self.assertEqual(back, deed)
            self.assertEqual([type(part) for part in back], [str] + [int] * WORDS[deed[0]])
            self.assertIs(type(back), tuple)

    def test_deeds_that_could_not_be_done(self):
        self.assertEqual(read("add 5 2 1"), ("add", 5, 2, 1))
        self.assertEqual(read("list -1 7"), ("list", -1, 7))
        self.assertEqual(read("fill -3 -7 0"), ("fill", -3, -7, 0))
        self.assertEqual(read("total 0 " + "9" * 60), ("total", 0, SIXTY))
        self.assertEqual(read("first -1 0"), ("first", -1, 0))

    def test_figures_somewhat_beyond_sixty(self):
        deed = ("add", -(10 ** 60), 10 ** 99, 7)
        self.assertEqual(read(shown(deed)), deed)

    def test_no_word(self):
        self.refused("", " ", "  ", "0", "-5", "0 1", "5 1 2 3")

    def test_unknown_words(self):
        self.refused("sum 0 1", "ad 0 1 2", "adds 0 1 2", "added 0 1 2", "listed 0 1", "none", "b", "backs", "-back")
        self.refused("add,0,1,2", "add(0 1 2)", "back.", "'back'", "_", "~ 0 1", "!")

    def test_capitals(self):
        self.refused("ADD 0 1 2", "Add 0 1 2", "BACK", "Back", "bacK", "Total 0 1", "LIST 0 1")

    def test_too_few_or_too_many_numbers(self):
        for word, many in WORDS.items():
            for other in range(6):
                if other != many:
                    self.refused(" ".join([word] + ["1"] * other))

    def test_numbers_that_are_not_written_so(self):
        wrong = [
            "-0", "+1", "01", "-01", "1.5", "-", "--1", "1_0", "1e3", "+0", "00", "-00", "007", "+", "1-", "1-2", "-1-",
            "- 1", "-+1", "+-1", "1.", ".5", "0x1", "0b1", "1,000", "1/2", "1j", "ten", "None", "True", "a1", "1a",
            "nan", "inf", "(1)", "[1]", "'1'", "0.0", "-1.0", "_1", "1_", "1__0", "12 ", "1\t", "1\n", "\t1", "\n1",
            "1\r", "", " ", "*", "1*2", "--", "~1", "0-", "-_1", "0" * 60,
        ]
        for number in wrong:
            for word, many in WORDS.items():
                for at in range(many):
                    numbers = ["1"] * many
                    numbers[at] = number
                    self.refused(" ".join([word] + numbers))

    def test_blanks_more(self):
        for line in ["add 0 12 -5", "fill 3 4 0", "total 0 7", "first 10 -1", "list 0 1", "back"]:
            self.refused(" " + line, line + " ", "  " + line, line + "  ", " " + line + " ")
            parts = line.split(" ")
            for at in range(1, len(parts)):
                self.refused(" ".join(parts[:at]) + "  " + " ".join(parts[at:]))

    def test_blanks_in_the_place_of_a_number(self):
        self.refused("add 0 1 ", "add  0 1", "total 0 ", "total  ", "add   ", "back  ")

    def test_tabs_and_line_ends(self):
        for line in ["add 0 12 -5", "total 0 7", "back"]:
            for sign in ["\t", "\n", "\r", "\r\n"]:
                self.refused(sign + line, line + sign, line.replace(" ", sign, 1) + (sign if line == "back" else ""))
                if " " in line:
                    self.refused(line.replace(" ", sign), line.replace(" ", sign + " "), line.replace(" ", " " + sign))
        self.refused("\t", "\n", "back\nback", "total 0 7\ntotal 0 7")

    def test_a_number_in_the_place_of_the_word_and_a_word_in_that_of_a_number(self):
        self.refused("1 0 12 -5", "0 add 12 -5", "12 7", "add add 12 5", "add 0 back 5", "add 0 1 fill", "total 0 list")
        self.refused("total total total", "back back", "0")

    def test_no_blank_between(self):
        self.refused("add0 1 2", "total0 1", "total 01", "add 0 12-5", "back0")
