"""Drawings: what section 15 tells, and what it refuses."""

import random
import unittest
from fractions import Fraction

from earstogether.drawings import bars, signs
from earstogether.errors import BadMoment, BadNumber, BadRow, BadRows, BadStep
from tests.support import (
    NO_FRACTIONS, NO_INTEGERS, NO_ROWS, Thing, assert_refusals, assert_refused, deep, numbers, random_row, whole_row,
)

NOTHING = (0, ())
ONE = (0, ((1, 1),))
ROW = whole_row(1, 1, 0, Fraction(-5, 2))


def signs_slowly(rows, first, many):
    lines = []
    for row in rows:
        table = numbers(row)
        worths = [table.get(moment, 0) for moment in range(first, first + many)]
        lines.append("".join(["+" if worth > 0 else "-" if worth < 0 else "." for worth in worths]))
    return "\n".join(lines)


def bars_slowly(row, first, many, step):
    table, step, lines = numbers(row), Fraction(*step), []
    for moment in range(first, first + many):
        left, line = abs(table.get(moment, 0)), "-" if table.get(moment, 0) < 0 else ""
        for _ in range(50):
            if left >= step:
                left, line = left - step, line + "#"
        lines.append(line)
    return "\n".join(lines)


class SignsTest(unittest.TestCase):

    def test_all_signs(self):
        self.assertEqual(signs((ROW,), 0, 5), ".+.-.")
        self.assertEqual(signs(many=3, first=3, rows=(ROW,)), "-..")
        self.assertEqual(signs((whole_row(0, Fraction(1, 999999999), Fraction(-1, 999999999)),), 0, 2), "+-")

    def test_nothing(self):
        self.assertEqual(signs((NOTHING,), -7, 1), ".")
        self.assertEqual(signs((NOTHING,) * 12, 0, 100), "\n".join(["." * 100] * 12))

    def test_ahead_of_and_behind_the_worths(self):
        self.assertEqual([signs((ROW,), first, 2) for first in (-10 ** 6, -1, 4, 10 ** 6)], ["..", "..", "..", ".."])
        self.assertEqual([signs((ROW,), first, 3) for first in (-2, -1, 2, 3)], ["...", "..+", ".-.", "-.."])

    def test_1_and_12_rows_1_and_100_moments(self):
        rows = tuple([whole_row(k, 1, -1) for k in range(12)])
        self.assertEqual(signs(rows, 0, 100), signs_slowly(rows, 0, 100))
        self.assertEqual(signs(rows, 5, 1).split("\n"), list("....-+......"))
        self.assertEqual(signs(rows[:1], 0, 1), "+")

    def test_at_random(self):
        source = random.Random(501)
        for _ in range(60):
            rows = tuple([random_row(source) for _ in range(source.randint(1, 12))])
            first, many = source.randint(-20, 10), source.randint(1, 30)
            self.assertEqual(signs(rows, first, many), signs_slowly(rows, first, many))


class BarsTest(unittest.TestCase):

    def lines(self, step, *worths):
        return bars(whole_row(0, *worths, 1), 0, len(worths), step).split("\n")

    def test_around_a_step(self):
        self.assertEqual(self.lines((1, 1), 0, Fraction(999, 1000), 1, Fraction(1001, 1000), Fraction(1999, 1000), 2),
                         ["", "", "#", "#", "#", "##"])
        self.assertEqual(self.lines((2, 3), 0, Fraction(2, 3), Fraction(3, 5), Fraction(4, 3), Fraction(5, 3), 2),
                         ["", "#", "", "##", "##", "###"])

    def test_below_0(self):
        self.assertEqual(self.lines((1, 1), Fraction(-1, 1000), -1, Fraction(-999, 1000), Fraction(-1999, 1000), -2, -3),
                         ["-", "-#", "-", "-#", "-##", "-###"])

    def test_around_50(self):
        for step in ((1, 1), (1, 7), (9, 2), (999999999, 1)):
            by = Fraction(*step)
            worths = [by * 49, by * 50 - by / 9, by * 50, by * 51, by * 1000]
            want = ["#" * 49, "#" * 49, "#" * 50, "#" * 50, "#" * 50]
            self.assertEqual(self.lines(step, *worths), want)
            self.assertEqual(self.lines(step, *[-worth for worth in worths]), ["-" + line for line in want])

    def test_ahead_and_behind(self):
        self.assertEqual(bars(ROW, -2, 7, (1, 1)), "\n\n\n#\n\n-##\n")
        self.assertEqual(bars(step=(1, 2), many=1, first=3, row=ROW), "-#####")
        self.assertEqual([bars(ROW, 10 ** 6, 2, (1, 1)), bars(ROW, 0, 1, (1, 1))], ["\n", ""])
        self.assertEqual(bars(NOTHING, 0, 100, (1, 1)), "\n" * 99)
        self.assertEqual(bars(whole_row(0, *[1] * 100), 0, 100, (1, 1)), "\n".join(["#"] * 100))

    def test_at_random(self):
        source = random.Random(502)
        for _ in range(60):
            row = random_row(source, 8, 30)
            step = Fraction(source.randint(1, 9), source.randint(1, 9))
            given = (row, source.randint(-15, 5), source.randint(1, 20), (step.numerator, step.denominator))
            self.assertEqual(bars(*given), bars_slowly(*given))


class RefusalsTest(unittest.TestCase):

    first = (BadMoment, (*NO_INTEGERS, (0, 1), deep(tuple)))
    many = (BadNumber, (*NO_INTEGERS, 0, -1, 101, 10 ** 9, deep(list)))

    def test_signs(self):
        rows = [None, True, 0, "", "-", (), [], [ROW], [ROW, ROW], {ROW: 1}, ROW, NOTHING, (ROW, None), ([ROW],), (ROW,) * 13, (NOTHING,) * 40]
        rows += [(wrong,) for wrong in NO_ROWS] + [(ROW, wrong, ONE) for wrong in NO_ROWS] + [deep(tuple), deep(list), Thing()]
        wrong = {"rows": (BadRows, rows), "first": self.first, "many": self.many}
        for right in ((ROW,), (NOTHING,), (ROW,) * 12):
            assert_refusals(self, signs, {"rows": right, "first": 0, "many": 100}, wrong)

    def test_bars(self):
        steps = (*NO_FRACTIONS, (0, 1), (-1, 1), (-3, 2), deep(tuple), deep(list))
        wrong = {"row": (BadRow, (*NO_ROWS, (ROW,), deep(tuple))), "first": self.first, "many": self.many, "step": (BadStep, steps)}
        for right in (ROW, NOTHING):
            assert_refusals(self, bars, {"row": right, "first": -3, "many": 1, "step": (1, 2)}, wrong)

    def test_the_first_of_several(self):
        assert_refused(self, BadRows, None, signs, None, None, None)
        assert_refused(self, BadMoment, None, signs, (ROW,), None, None)
        assert_refused(self, BadNumber, None, signs, (ROW,), 0, None)
        assert_refused(self, BadRow, True, bars, True, True, True, True)
        assert_refused(self, BadMoment, True, bars, ROW, True, True, True)
        assert_refused(self, BadNumber, True, bars, ROW, 1, True, True)
        assert_refused(self, BadStep, True, bars, ROW, 1, 1, True)


if __name__ == "__main__":
    unittest.main()
