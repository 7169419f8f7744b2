"""Yards as texts: point [29]."""

import random
import re
import unittest

from anything import no_texts
from refusals import Raised
from second import full_layers, full_yards, small_yards, some_layers, without_things
from words import Pairs
from noaslong.lots import Lots
from noaslong.mirrors import Mirror
from noaslong.parts import Part
from noaslong.rows import Rows
from noaslong.seats import Seats
from noaslong.texts import read_yard, yard_text
from noaslong.ties import Ties

WRITTEN = (
    (Ties(3, [(0, 1), (2, 2), (1, 0)]), "ties 3\n0 1\n2 2\n1 0\n"),
    (Ties(12, [(11, 10)]), "ties 12\n11 10\n"),
    (Ties(1, []), "ties 1\n"),
    (Rows([5, 0, 4095, 5]), "rows\n5\n0\n4095\n5\n"),
    (Rows([]), "rows\n"),
    (Lots([1, 0, 24], [0, 2, 2]), "lots 1 0 24\n0\n2\n2\n"),
    (Lots([3], []), "lots 3\n"),
    (Lots([], []), "lots\n"),
    (Lots([0] * 8, [7]), "lots 0 0 0 0 0 0 0 0\n7\n"),
    (Seats(3, [[2, 0], [], [1]]), "seats 3\n2 0\n-\n1\n"),
    (Seats(0, [[], []]), "seats 0\n-\n-\n"),
    (Seats(12, [[11, 3, 10]]), "seats 12\n11 3 10\n"),
    (Seats(0, []), "seats 0\n"),
)

SPOILT = (
    ("", 0), ("\n", 1), (" ", 1), ("\n\n", 1), ("rows", 1), ("ties 3", 1), ("lots", 1), ("seats 2", 1),
    ("row\n", 1), ("rowss\n", 1), ("Rows\n", 1), (" rows\n", 1), ("rows \n", 1), ("rows 1\n", 1), ("rows\n\n", 2),
    ("\nrows\n", 1), ("rows\n5", 2), ("rows\n5\n3", 3), ("rows\n5\n\n", 3), ("rows\n\n5\n", 2), ("rows\n5 \n", 2),
    ("rows\n 5\n", 2), ("rows\n5 3\n", 2), ("rows\n05\n", 2), ("rows\n00\n", 2), ("rows\n-1\n", 2), ("rows\n+1\n", 2),
    ("rows\n4096\n", 2), ("rows\n1\n4095\n9999999999999999999999999999\n", 4), ("rows\n-\n", 2), ("rows\nx\n", 2),
    ("rows\n5\nrows\n", 3), ("rows\n1_0\n", 2), ("rows\n5.\n", 2), ("rows\n0x5\n", 2), ("rows\n5\n4096", 3),
    ("rows\n4096\n5", 2), ("rows\nx\n4096\ny\n", 2), ("rowx\n5\n6", 1),
    ("ties\n", 1), ("ties \n", 1), ("ties 0\n", 1), ("ties 13\n", 1), ("ties 03\n", 1), ("ties  3\n", 1),
    ("ties 3 \n", 1), ("ties 3 3\n", 1), ("ties -\n", 1), ("ties x\n", 1), ("ties 3\n0\n", 2), ("ties 3\n0 1 2\n", 2),
    ("ties 3\n0 3\n", 2), ("ties 3\n3 0\n", 2), ("ties 3\n0  1\n", 2), ("ties 3\n0 1 \n", 2), ("ties 3\n 0 1\n", 2),
    ("ties 3\n0 01\n", 2), ("ties 3\n0,1\n", 2), ("ties 3\n0 1\n-\n", 3), ("ties 3\n0 1\n1 2\n2 3\n", 4),
    ("ties 3\n0 1\n1 2", 3), ("ties 13\n0 1\n", 1), ("ties 3\n0 1\n\n1 2\n", 3),
    ("lots \n", 1), ("lots 25\n", 1), ("lots 1 25 1\n", 1), ("lots 0 0 0 0 0 0 0 0 0\n", 1), ("lots 01\n", 1),
    ("lots 1  1\n", 1), ("lots -\n", 1), ("lots 1 \n", 1), ("lots\n0\n", 2), ("lots 1\n1\n", 2), ("lots 1\n0 0\n", 2),
    ("lots 1 1\n0\n1\n2\n", 4), ("lots 1\n0\n00\n", 3), ("lots 1\n\n", 2), ("lots 1\n0", 2),
    ("seats\n", 1), ("seats -\n", 1), ("seats 13\n", 1), ("seats 00\n", 1), ("seats 2 2\n", 1), ("seats 2\n\n", 2),
    ("seats 2\n2\n", 2), ("seats 2\n0 0\n", 2), ("seats 2\n0 1 0\n", 2), ("seats 2\n- -\n", 2), ("seats 2\n-0\n", 2),
    ("seats 2\n0 -\n", 2), ("seats 2\n--\n", 2), ("seats 0\n0\n", 2), ("seats 2\n1 0\n-\n1  0\n", 4),
    ("seats 2\n- \n", 2), ("seats 2\n-", 2), ("seats 2\n-\n\n", 3),
    ("rows\n" + "1\n" * 25, 26), ("rows\n" + "1\n" * 24 + "1", 26), ("rows\n" + "1\n" * 24 + "x\n", 26),
    ("rows\n" + "1\n" * 30, 26), ("rows\n1\nx\n" + "1\n" * 30, 3), ("ties 1\n" + "0 0\n" * 25, 26),
    ("lots 24\n" + "0\n" * 25, 26), ("seats 0\n" + "-\n" * 25, 26), ("seats 0\n" + "-\n" * 24 + "\n", 26),
    ("mirror\n", 1), ("Mirror(Rows([5]))\n", 1), ("yes\n", 1), ("0 yes\n", 1),
)

NUMBER = "(?:0|[1-9][0-9]*)"


def spoilt_by(text):
    """The row by which a text is no yard's, the second way; None where it is one."""
    if text == "":
        return 0
    sort, numbers = None, []
    for at, row in enumerate(re.findall(r"[^\n]*\n|[^\n]+\Z", text), start=1):
        if at == 1:
            if not re.fullmatch(rf"(ties {NUMBER}|rows|lots( {NUMBER})*|seats {NUMBER})\n", row):
                return 1
            sort, numbers = row.split()[0], [int(word) for word in row.split()[1:]]
            right = {"ties": lambda: 1 <= numbers[0] <= 12, "rows": lambda: True, "seats": lambda: numbers[0] <= 12,
                     "lots": lambda: len(numbers) <= 8 and max(numbers, default=0) <= 24}[sort]()
        else:
            shape = {"ties": rf"{NUMBER} {NUMBER}\n", "rows": rf"{NUMBER}\n", "lots": rf"{NUMBER}\n",
                     "seats": rf"(-|{NUMBER}( {NUMBER})*)\n"}[sort]
            if at > 25 or not re.fullmatch(shape, row):
                return at
            told = [int(word) for word in row.replace("-", "").split()]
            below = {"ties": lambda: numbers[0], "rows": lambda: 4096, "lots": lambda: len(numbers),
                     "seats": lambda: numbers[0]}[sort]()
            right = all(number < below for number in told) and (sort != "seats" or len(set(told)) == len(told))
        if not right:
            return at
    return None


class Written(Raised, unittest.TestCase):
    def test_ordinary_ones_and_edges(self):
        for yard, text in WRITTEN:
            self.assertEqual(yard_text(yard), text)
            self.assertTrue(read_yard(text) == yard, text)

    def test_read_again_it_is_an_equal_yard(self):
        for yard in small_yards() + full_yards() + without_things():
            text = yard_text(yard)
            again = read_yard(text)
            self.assertIs(type(again), type(yard))
            self.assertTrue(again == yard, text)
            self.assertEqual(yard_text(again), text)
            self.assertTrue(text.endswith("\n"))

    def test_another_sort(self):
        for yard in some_layers() + full_layers() + [Pairs(), Mirror(Mirror(Rows([5]))), Part(Rows([5]))]:
            self.raised("NoYard", yard_text, yard, what="sort", who=None)

    def test_by_names(self):
        self.assertEqual(yard_text(yard=Rows([5])), "rows\n5\n")
        self.assertTrue(read_yard(text="rows\n5\n") == Rows([5]))

    def test_what_is_handed_in_stays_and_each_reading_is_its_own(self):
        yard = Seats(2, [[1, 0], []])
        yard_text(yard)
        self.assertEqual(repr(yard), "Seats(2, [[1, 0], []])")
        one, other = read_yard("rows\n5\n"), read_yard("rows\n5\n")
        one.rows().clear()
        self.assertTrue(one == other and one is not other)


class Spoilt(Raised, unittest.TestCase):
    def refused(self, text, row):
        self.raised("NoText", read_yard, text, row=row)

    def test_the_row_that_is_told(self):
        for text, row in SPOILT:
            with self.subTest(text=text):
                self.refused(text, row)
                self.assertEqual(spoilt_by(text), row)

    def test_no_texts(self):
        for wrong in no_texts() + [b"rows\n", [b"rows\n"], ["rows\n"], ("rows\n",), Rows([5]), Rows, str]:
            self.refused(wrong, 0)

    def test_all_beginnings(self):
        for yard, text in WRITTEN:
            for end in range(len(text)):
                row = spoilt_by(text[:end])
                if row is None:
                    self.assertEqual(yard_text(read_yard(text[:end])), text[:end])
                else:
                    self.refused(text[:end], row)

    def test_a_sign_more_less_or_other(self):
        right = 0
        for yard, text in WRITTEN:
            for at in range(len(text) + 1):
                for sign in " \n-0129a":
                    for spoilt in (text[:at] + sign + text[at:], text[:at] + sign + text[at + 1:],
                                   text[:at] + text[at + 1:]):
                        row = spoilt_by(spoilt)
                        if row is None:
                            right += 1
                            self.assertEqual(yard_text(read_yard(spoilt)), spoilt)
                        else:
                            self.refused(spoilt, row)
        self.assertGreater(right, 100)

    def test_many_spoilt_at_random(self):
        dice = random.Random(101)
        yards = small_yards()[::9] + full_yards()
        for yard in yards:
            rows = yard_text(yard).split("\n")
            for turn in range(6):
                spoilt = list(rows)
                at = dice.randrange(len(spoilt))
                spoilt[at:at + dice.randrange(2)] = [dice.choice(["", "-", "0", "00", "7", "0 1", "1 1", "rows", "3 ",
                                                                  "ties 2", "4095", "4096", "0 1 2", "lots 1 1"])]
                text = "\n".join(spoilt)
                row = spoilt_by(text)
                if row is None:
                    self.assertEqual(yard_text(read_yard(text)), text)
                else:
                    self.refused(text, row)

    def test_each_sign_alone(self):
        for sign in [chr(number) for number in range(32, 127) if chr(number) != "%"]:
            if sign.isdigit():
                self.assertTrue(read_yard(f"rows\n{sign}\n") == Rows([int(sign)]))
            else:
                self.refused(f"rows\n{sign}\n", 2)
                self.refused(f"rows\n1{sign}2\n", 2)

    def test_very_many_figures(self):
        self.refused("rows\n" + "9" * 5000 + "\n", 2)
        self.refused("ties " + "1" * 5000 + "\n", 1)
        self.refused("lots 1\n" + "0" * 5000 + "\n", 2)

    def test_the_longest_ones(self):
        yard = Seats(12, [list(range(12))] * 24)
        self.assertTrue(read_yard(yard_text(yard)) == yard)


if __name__ == "__main__":
    unittest.main()
