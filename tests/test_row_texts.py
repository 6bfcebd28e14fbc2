"""Texts of rows: section 4."""

import random
import unittest
from fractions import Fraction

from earstogether.errors import BadRow
from earstogether.rows import read_row, row_text, times
from tests.support import Thing, assert_refused, random_row, row_from, whole_row

NO_TEXTS = (
    "", " ", "--", "- ", " -", "-\n", "0", "0:", "0: ", "0:1", ":", ": 1", "1", "1 2", "3 1: 2",
    "0: 0", "0: 0 1", "0: 1 0", "0: 0 0", "5: 0 1 0", "0: -", "0: 1 -",
    "+1: 1", "0: +1", "01: 1", "0: 01", "00: 1", "0: 00", "-0: 1", "0: 1 -0 1", "0: -01", "-01: 1", "0: --1", "1-: 1",
    "0: 2/4", "0: 1/1", "0: 1/-2", "0: -1/-2", "0: 0/1", "0: 1 0/1 1", "0: 1 0/2 1", "0: 1/0", "0: 1/02", "0: 01/2",
    "0: 1/", "0: /2", "0: 1/2/3", "0: 1/+2", "0: -3/3", "0: 6/3", "0: 1 /2", "0: 1/ 2", "0: -/2", "0: 3/-0",
    "0:  1", "0: 1  2", "0: 1 ", " 0: 1", "0 : 1", "0: 1\n", "\n0: 1", "0: 1\n2", "0:\n1", "0: 1\t2", "0:: 1", "0: 1: 2",
    "0: 1.0", "0: 1e3", "0: 1_0", "1_0: 1", "0: 0x1", "0: a", "a: 1", "1/2: 1", "0: (1, 1)", "0: 1,2", "0: 1;", "(0, ())",
)

NO_STRINGS = (None, True, 0, (), (0, ()), (0, ((1, 1),)), ["-"], ("-",), [], {}, Thing())


class RowTextTest(unittest.TestCase):

    def test_texts(self):
        for row, text in (
            (whole_row(3, 1, Fraction(-1, 2), 0, 2), "3: 1 -1/2 0 2"), ((0, ()), "-"), (whole_row(0, 1), "0: 1"),
            (whole_row(-12, -1, 0, 0, Fraction(7, 3)), "-12: -1 0 0 7/3"), (whole_row(0, Fraction(-1, 2)), "0: -1/2"),
            (whole_row(10, 100, 20, 0, -30), "10: 100 20 0 -30"),
            (whole_row(-999999999, 999999999), "-999999999: 999999999"),
        ):
            self.assertEqual(row_text(row), text)
            self.assertEqual(read_row(text), row)
            self.assertEqual(row_text(row=row), text)
            self.assertEqual(read_row(text=text), row)

    def test_there_and_back_at_random(self):
        source = random.Random(8)
        for _ in range(300):
            row = random_row(source, 9, 30, (1, 1, 2, 3, 17))
            self.assertEqual(repr(read_row(row_text(row))), repr(row))

    def test_texts_that_are_none(self):
        for text in NO_TEXTS:
            assert_refused(self, BadRow, text, read_row, text)

    def test_what_is_no_string(self):
        for value in NO_STRINGS:
            assert_refused(self, BadRow, value, read_row, value)
            assert_refused(self, BadRow, value, read_row, text=value)

    def test_only_the_texts_that_are_told_are_read(self):
        signs = ("", "-", "0", "1", "2", "/", " ", ":", ": ")
        texts = [a + b + c + d for a in ("", "0: ", "-1: 1") for b in signs for c in signs for d in signs]
        for text in texts:
            try:
                row = read_row(text)
            except BadRow as caught:
                self.assertIs(caught.value, text)
            else:
                self.assertEqual(row_text(row), text)


class GreatNumbersTest(unittest.TestCase):

    def test_some_hundred_figures_and_more(self):
        for figures in (1, 9, 10, 511, 512, 513, 1023, 1024, 1025, 1536, 4299, 4300, 4301, 9999, 20000):
            for number in (10 ** figures - 1, 10 ** figures, 10 ** figures + 1, 7 * 10 ** figures // 3):
                text = "0: " + decimal(number) + " -" + decimal(number)
                self.assertEqual(row_text((0, ((number, 1), (-number, 1)))), text)
                self.assertEqual(read_row(text), (0, ((number, 1), (-number, 1))))

    def test_bottoms_and_moments(self):
        great = 3 ** 12000
        row = (-great, ((2, great), (-great, 2)))
        text = "-" + decimal(great) + ": 2/" + decimal(great) + " -" + decimal(great) + "/2"
        self.assertEqual(row_text(row), text)
        self.assertEqual(read_row(text), row)
        self.assertRaises(BadRow, read_row, "0: 3/" + decimal(great))

    def test_a_power(self):
        row = whole_row(0, Fraction(999999937, 2), Fraction(-1, 999999929))
        for _ in range(9):
            row = times(row, row)
        self.assertGreater(row[1][0][0], 10 ** 4400)
        self.assertEqual(read_row(row_text(row)), row)
        self.assertEqual(row_from({0: Fraction(*row[1][0])}), (0, (row[1][0],)))

    def test_figures_that_cannot_stand(self):
        for text in ("0: 0" + "1" * 5000, "0: 1" + "0" * 5000 + "x", "0: -0" + "0" * 5000, "0: 1/0" + "1" * 5000):
            assert_refused(self, BadRow, text, read_row, text)


def decimal(number):
    """The figures of an integer above 0, reckoned slowly."""
    out = []
    while number:
        number, last = divmod(number, 10 ** 100)
        out.append(str(last).zfill(100))
    return "".join(reversed(out)).lstrip("0")


if __name__ == "__main__":
    unittest.main()
