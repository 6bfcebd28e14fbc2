"""What rows.py refuses: sections 2 and 4."""

import unittest

from earstogether.errors import BadFraction, BadNumber, BadRow, BadWorths
from earstogether.rows import less, plus, row_of, row_text, scaled, shifted, spread, times, turned, worth
from tests.support import NO_FRACTIONS, NO_INTEGERS, NO_ROWS, Thing, assert_refused

ROW = (3, ((1, 1), (-1, 2), (0, 1), (2, 1)))
NOTHING = (0, ())

NO_WORTHS = (
    True, None, 0, "", "1", [], [(1, 1)], {}, (1, 1), ((1, 1), 1), ((1, 1), [1, 1]), Thing(), ((0, 1),) * 201,
    tuple([(k + 1, 1) for k in range(201)]), ((1, 1),) * 5000,
) + tuple([(wrong,) for wrong in NO_FRACTIONS]) + tuple([((1, 1), (0, 1), wrong, (1, 1)) for wrong in NO_FRACTIONS])


class RowOfTest(unittest.TestCase):

    def test_numbers(self):
        for value in NO_INTEGERS:
            assert_refused(self, BadNumber, value, row_of, value, ((1, 1),))
            assert_refused(self, BadNumber, value, row_of, first=value, worths=())

    def test_worths(self):
        for value in NO_WORTHS:
            assert_refused(self, BadWorths, value, row_of, 0, value)
            assert_refused(self, BadWorths, value, row_of, worths=value, first=-3)

    def test_the_number_first(self):
        for number in NO_INTEGERS:
            for worths in (None, [], ((2, 4),), ((1, 1),) * 201):
                assert_refused(self, BadNumber, number, row_of, number, worths)
                assert_refused(self, BadNumber, number, row_of, worths=worths, first=number)


class PairsTest(unittest.TestCase):

    def test_one(self):
        for look in (plus, less, times):
            for value in NO_ROWS:
                for other in (ROW, NOTHING):
                    assert_refused(self, BadRow, value, look, value, other)
                assert_refused(self, BadRow, value, look, other=ROW, one=value)

    def test_other(self):
        for look in (plus, less, times):
            for value in NO_ROWS:
                for one in (ROW, NOTHING):
                    assert_refused(self, BadRow, value, look, one, value)
                assert_refused(self, BadRow, value, look, other=value, one=ROW)

    def test_one_before_other(self):
        for look in (plus, less, times):
            for value in NO_ROWS:
                assert_refused(self, BadRow, value, look, value, (1, ()))
                assert_refused(self, BadRow, value, look, other=[0, ()], one=value)


class SinglesTest(unittest.TestCase):

    def test_rows(self):
        for look in (turned, spread, row_text):
            for value in NO_ROWS:
                assert_refused(self, BadRow, value, look, value)
                assert_refused(self, BadRow, value, look, row=value)


class ScaledTest(unittest.TestCase):

    def test_rows(self):
        for value in NO_ROWS:
            for by in ((1, 2), (0, 1), (2, 4), None):
                assert_refused(self, BadRow, value, scaled, value, by)
            assert_refused(self, BadRow, value, scaled, by=(0, 2), row=value)

    def test_fractions(self):
        for value in NO_FRACTIONS:
            for row in (ROW, NOTHING):
                assert_refused(self, BadFraction, value, scaled, row, value)
            assert_refused(self, BadFraction, value, scaled, by=value, row=ROW)


class MomentsTest(unittest.TestCase):

    def test_rows(self):
        for value in NO_ROWS:
            for number in (0, 4, True, None):
                assert_refused(self, BadRow, value, shifted, value, number)
                assert_refused(self, BadRow, value, worth, value, number)
            assert_refused(self, BadRow, value, shifted, by="1", row=value)
            assert_refused(self, BadRow, value, worth, moment="1", row=value)

    def test_numbers(self):
        for value in NO_INTEGERS:
            for row in (ROW, NOTHING):
                assert_refused(self, BadNumber, value, shifted, row, value)
                assert_refused(self, BadNumber, value, worth, row, value)
            assert_refused(self, BadNumber, value, shifted, by=value, row=ROW)
            assert_refused(self, BadNumber, value, worth, moment=value, row=ROW)


if __name__ == "__main__":
    unittest.main()
