"""What lying.py and correlations.py refuse: sections 2, 12 and 13."""

import unittest

from earstogether.arrays import heard
from earstogether.correlations import (
    all_alike, are_alike, correlation, form_of, pairs_with, rows_with, shared, shows_shared,
)
from earstogether.errors import BadNames, BadNumber, BadRecords, BadRow, NoArray, NoEar, TooWide
from earstogether.lying import (
    picture_but, safe, shows_picture_but, sole, stories, surely_lying, surely_true, word_of_one,
)
from tests.array_support import EIGHT, LINE, NO_ARRAYS, NO_EARS_THERE, NO_NAMES, ONE_EAR
from tests.support import (
    NO_INTEGERS, NO_ROWS, Thing, assert_refusals, assert_refused, deep, row_from, whole_row, wrong_tuples,
)

NOTHING = (0, ())
ONE = (0, ((1, 1),))

PICTURE = (whole_row(0, 1, 2), whole_row(-3, -1))
RECORDS = heard(LINE, PICTURE)
VALUES = (None, True, 0, "", (), [], (ONE,), PICTURE, (ONE, NOTHING), deep(tuple), deep(list), Thing())

ROWS_WRONG = (BadRow, (*NO_ROWS, deep(tuple), deep(list), RECORDS, LINE))
WIDE = row_from({-4: 1, 5: 1})
WIDER = row_from({0: 1, 10: 2})


class LyingTest(unittest.TestCase):

    wrong = {
        "array": (NoArray, NO_ARRAYS), "records": (BadRecords, wrong_tuples(RECORDS)),
        "names": (BadNames, (*NO_NAMES, LINE.names, deep(tuple))),
        "most": (BadNumber, (*NO_INTEGERS, -1, 3, 4, 10 ** 9, -(10 ** 9), (0,), deep(list))),
        "name": (NoEar, (*NO_EARS_THERE, LINE.names, deep(tuple))),
    }

    def right(self, **more):
        return {"array": LINE, "records": RECORDS, **more}

    def test_names(self):
        for names in ((), ("b",), ("a", "c")):
            assert_refusals(self, picture_but, self.right(names=names), self.wrong)
        for value in VALUES:
            assert_refusals(self, shows_picture_but, self.right(names=("b",), value=value), self.wrong)

    def test_most(self):
        for most in (0, 1, 2):
            for look in (stories, surely_lying, surely_true, sole):
                assert_refusals(self, look, self.right(most=most), self.wrong)

    def test_name(self):
        for most in (0, 2):
            assert_refusals(self, word_of_one, self.right(most=most, name="c"), self.wrong)

    def test_array_alone(self):
        assert_refusals(self, safe, {"array": LINE}, self.wrong)

    def test_to_the_bounds(self):
        records = (NOTHING,) * 8
        self.assertEqual(stories(EIGHT, records, 7), ((),))
        assert_refused(self, BadNumber, 8, stories, EIGHT, records, 8)
        self.assertIsNotNone(picture_but(EIGHT, records, EIGHT.names[1:]))
        assert_refused(self, BadNames, EIGHT.names, picture_but, EIGHT, records, EIGHT.names)
        self.assertEqual(stories(ONE_EAR, (ONE,), 0), ((),))
        assert_refused(self, BadNumber, 1, stories, ONE_EAR, (ONE,), 1)
        assert_refused(self, BadNames, ("a",), picture_but, ONE_EAR, (ONE,), ("a",))


class CorrelationsTest(unittest.TestCase):

    def test_one_row(self):
        for look in (form_of, all_alike, rows_with):
            for row in (NOTHING, ONE, whole_row(-1, 2, 5, 2)):
                assert_refusals(self, look, {"row": row}, {"row": ROWS_WRONG})

    def test_two_rows(self):
        wrong = {"one": ROWS_WRONG, "other": ROWS_WRONG}
        for one, other in ((NOTHING, ONE), (whole_row(0, 1, 2), whole_row(0, 2, 1))):
            for look in (correlation, are_alike, shared):
                assert_refusals(self, look, {"one": one, "other": other}, wrong)
            for value in VALUES:
                assert_refusals(self, shows_shared, {"one": one, "other": other, "value": value}, wrong)

    def test_three_rows(self):
        wrong = {"first": ROWS_WRONG, "cross": ROWS_WRONG, "second": ROWS_WRONG}
        right = {"first": whole_row(-1, 2, 5, 2), "cross": whole_row(-1, -1, -1, 2), "second": whole_row(-1, -1, 2, -1)}
        assert_refusals(self, pairs_with, right, wrong)

    def test_too_wide(self):
        for look in (all_alike, rows_with):
            for row, spread in ((WIDE, 9), (WIDER, 10), (row_from({-50: 1, 50: 1}), 100), (whole_row(-5, *[1] * 11), 10)):
                for given in ({"row": row}, {"row": (row[0], tuple(list(row[1])))}):
                    self.assertTooWide(spread, look, **given)
            for row in (row_from({-4: 1, 4: 1}), whole_row(7, *[1] * 9), NOTHING):
                self.assertIs(type(look(row)), tuple)

    def assertTooWide(self, spread, look, *arguments, **named):
        with self.assertRaises(TooWide) as caught:
            look(*arguments, **named)
        self.assertEqual((type(caught.exception.value), caught.exception.value), (int, spread))

    def test_pairs_too_wide(self):
        right = whole_row(-1, 2, 5, 2)
        self.assertTooWide(9, pairs_with, WIDE, NOTHING, right)
        self.assertTooWide(10, pairs_with, right, NOTHING, WIDER)
        self.assertTooWide(9, pairs_with, WIDE, NOTHING, WIDER)
        self.assertTooWide(10, pairs_with, WIDER, NOTHING, WIDE)
        self.assertTooWide(9, pairs_with, second=WIDER, cross=WIDER, first=WIDE)
        self.assertTooWide(10, pairs_with, NOTHING, ONE, WIDER)
        # The row in the middle may be as wide as it likes.
        self.assertEqual(pairs_with(right, WIDER, right), ())
        self.assertEqual(pairs_with(NOTHING, WIDER, NOTHING), ())

    def test_bad_row_ahead_of_too_wide(self):
        for wrong in NO_ROWS:
            assert_refused(self, BadRow, wrong, pairs_with, WIDE, wrong, ONE)
            assert_refused(self, BadRow, wrong, pairs_with, WIDE, ONE, wrong)
            assert_refused(self, BadRow, wrong, pairs_with, wrong, ONE, WIDER)
            assert_refused(self, BadRow, wrong, pairs_with, WIDER, wrong, WIDE)


if __name__ == "__main__":
    unittest.main()
