"""What pictures.py, choirs.py, needed.py and late.py refuse: sections 2 and 8 to 11."""

import unittest

from earstogether.arrays import heard
from earstogether.choirs import choirs, gains, only_endless, outcome, paper, shows_choirs, shows_paper
from earstogether.errors import (
    BadChoir, BadLags, BadLate, BadNames, BadNumber, BadPicture, BadRecords, NoArray, NoEar, NotGhost, NoWay,
)
from earstogether.late import all_lags, lags_of, put_back, shows_why_not, why_not, word_of
from earstogether.needed import (
    is_enough, least_choirs, least_enough, least_for, least_losses, least_losses_for, lot_rank, spare, tells, word_of_ear,
)
from earstogether.pictures import (
    ghosts, is_all_told, is_ghost, picture_of, shares, shows_ghosts, shows_picture_of, told,
)
from tests.array_support import EIGHT, LINE, NO_ARRAYS, NO_EARS_THERE, NO_NAMES, THREE_WAYS, TWO
from tests.support import NO_INTEGERS, Thing, assert_refusals, assert_refused, later, whole_row, wrong_tuples

NOTHING = (0, ())
ONE = (0, ((1, 1),))

PICTURE = (whole_row(0, 1, 2), whole_row(-3, -1))
RECORDS = (whole_row(0, 1, 2), NOTHING, whole_row(-3, -1))
GHOST = (later(ONE, 1), whole_row(0, -1, -1), ONE)

ARRAY_WRONG = (NoArray, NO_ARRAYS)
RECORDS_WRONG = (BadRecords, wrong_tuples(RECORDS))
NO_WAYS_HERE = (*NO_INTEGERS, -1, 2, 10 ** 9, (0,), "0")

VALUES = (None, True, 0, "", (), [], (ONE,), (PICTURE,), (RECORDS, NOTHING), Thing())

LATE = (("a", 3), ("c", 1))
NO_LATE = [
    None, True, 0, "", "a", (), [], {}, {"a": 3}, [("a", 3)], list(LATE), ("a", 3), (LATE,), (("a",),), (("a", 3, 0),), (["a", 3],),
    ("a3",), (3, "a"), ((3, "a"),), (("a", 3), None), (("a", 3), ()), LATE[::-1], (("a", 3), ("a", 1)), (("b", 1), ("a", 1), ("c", 1)),
    (("a", 1), ("c", 1), ("b", 1)), (("d", 1),), (("a", 1), ("d", 1)), (("A", 1),), (("", 1),), ((None, 1),), ((True, 1),),
    ((("a",), 1),), (("a", -1),), (("a", 64),), (("a", 10 ** 9),), (("a", 63), ("b", 1)), (("a", 7), ("b", 8)), (("a", 3), ("b", 3), ("c", 4)),
    (("a", 31), ("b", 2)), (("b", 1), ("c", 32)), (("a", 63), ("c", 63)), Thing(),
]
NO_LATE += [(("a", value),) for value in NO_INTEGERS] + [(("a", 1), ("b", value)) for value in NO_INTEGERS]
NO_LATE += [((value, 1),) for value in NO_EARS_THERE]

LAGS = (2, 0)
NO_LAGS = [
    None, True, 0, "", (), [], [2, 0], {0: 2}, (2,), (2, 0, 0), ((2, 0),), (4, 0), (0, 2), (-1, 0), (0, -1), (3, 2), (64, 0),
    (("a", 2), ("c", 0)), "20", Thing(),
]
NO_LAGS += [(value, 0) for value in NO_INTEGERS] + [(2, value) for value in NO_INTEGERS]


class PicturesTest(unittest.TestCase):

    def test_array_alone(self):
        for look in (ghosts, is_all_told):
            assert_refusals(self, look, {"array": LINE}, {"array": ARRAY_WRONG})
        for value in VALUES:
            assert_refusals(self, shows_ghosts, {"array": LINE, "value": value}, {"array": ARRAY_WRONG})

    def test_records(self):
        wrong = {"array": ARRAY_WRONG, "records": RECORDS_WRONG}
        assert_refusals(self, picture_of, {"array": LINE, "records": RECORDS}, wrong)
        for value in VALUES:
            assert_refusals(self, shows_picture_of, {"array": LINE, "records": RECORDS, "value": value}, wrong)
        for look in (picture_of, paper, only_endless):
            assert_refused(self, BadRecords, PICTURE, look, LINE, PICTURE)

    def test_pictures(self):
        wrong = {"array": ARRAY_WRONG, "picture": (BadPicture, wrong_tuples(PICTURE))}
        assert_refusals(self, is_ghost, {"array": LINE, "picture": PICTURE}, wrong)
        assert_refused(self, BadPicture, RECORDS, is_ghost, LINE, RECORDS)

    def test_shares(self):
        wrong = {"array": ARRAY_WRONG, "picture": (BadPicture, wrong_tuples(GHOST))}
        assert_refusals(self, shares, {"array": THREE_WAYS, "picture": GHOST}, wrong)
        for value in ((ONE, ONE, ONE), (ONE, NOTHING, NOTHING), GHOST[::-1], (whole_row(1, 1, 1), *GHOST[1:])):
            assert_refused(self, NotGhost, value, shares, THREE_WAYS, value)
            assert_refused(self, NotGhost, value, shares, picture=value, array=THREE_WAYS)
        for value in (PICTURE, (ONE, NOTHING)):
            assert_refused(self, NotGhost, value, shares, TWO, value)
        self.assertEqual(shares(TWO, (NOTHING, NOTHING)), ())

    def test_told(self):
        wrong = {"array": ARRAY_WRONG, "way": (BadNumber, NO_WAYS_HERE)}
        assert_refusals(self, told, {"array": LINE, "way": 1}, wrong)


class ChoirsTest(unittest.TestCase):

    def test_array_alone(self):
        assert_refusals(self, choirs, {"array": LINE}, {"array": ARRAY_WRONG})
        for value in VALUES:
            assert_refusals(self, shows_choirs, {"array": LINE, "value": value}, {"array": ARRAY_WRONG})

    def test_choirs(self):
        choir = (ONE, NOTHING, whole_row(4, 1, 1))
        wrong = {"array": ARRAY_WRONG, "choir": (BadChoir, wrong_tuples(choir)), "records": RECORDS_WRONG}
        assert_refusals(self, gains, {"array": LINE, "choir": choir}, wrong)
        assert_refusals(self, outcome, {"array": LINE, "choir": choir, "records": RECORDS}, wrong)
        assert_refused(self, BadChoir, PICTURE, gains, LINE, PICTURE)

    def test_records(self):
        wrong = {"array": ARRAY_WRONG, "records": RECORDS_WRONG}
        for look in (paper, only_endless):
            assert_refusals(self, look, {"array": LINE, "records": RECORDS}, wrong)
        for value in VALUES:
            assert_refusals(self, shows_paper, {"array": LINE, "records": RECORDS, "value": value}, wrong)


class NeededTest(unittest.TestCase):

    def test_array_alone(self):
        for look in (least_enough, least_losses, least_choirs, spare):
            assert_refusals(self, look, {"array": LINE}, {"array": ARRAY_WRONG})

    def test_names(self):
        wrong = {"array": ARRAY_WRONG, "names": (BadNames, NO_NAMES), "way": (NoWay, NO_WAYS_HERE)}
        for names in ((), ("b",), ("a", "c"), ("a", "b", "c")):
            for look in (lot_rank, is_enough):
                assert_refusals(self, look, {"array": LINE, "names": names}, wrong)
            assert_refusals(self, tells, {"array": LINE, "names": names, "way": 1}, wrong)

    def test_ways(self):
        wrong = {"array": ARRAY_WRONG, "way": (NoWay, NO_WAYS_HERE)}
        for look in (least_for, least_losses_for):
            assert_refusals(self, look, {"array": LINE, "way": 0}, wrong)

    def test_ears(self):
        wrong = {"array": ARRAY_WRONG, "name": (NoEar, NO_EARS_THERE)}
        assert_refusals(self, word_of_ear, {"array": LINE, "name": "b"}, wrong)


class LateTest(unittest.TestCase):

    wrong = {
        "array": ARRAY_WRONG, "records": RECORDS_WRONG, "late": (BadLate, NO_LATE), "lags": (BadLags, NO_LAGS),
        "name": (NoEar, (*NO_EARS_THERE, "b")),
    }

    def right(self, **more):
        return {"array": LINE, "records": heard(LINE, PICTURE), "late": LATE, **more}

    def test_late(self):
        for look in (all_lags, lags_of):
            assert_refusals(self, look, self.right(), self.wrong)

    def test_lags(self):
        for look in (put_back, why_not):
            assert_refusals(self, look, self.right(lags=LAGS), self.wrong)
        for value in VALUES:
            assert_refusals(self, shows_why_not, self.right(lags=LAGS, value=value), self.wrong)

    def test_names(self):
        assert_refusals(self, word_of, self.right(name="c"), self.wrong)

    def test_to_the_bounds(self):
        records = (NOTHING,) * 8
        for late in (
            (("a", 0),), (("h", 63),), (("a", 63), ("b", 0)), (("a", 31), ("h", 1)), (("b", 7), ("c", 7)), (("a", 3), ("b", 3), ("c", 3)),
            tuple([(name, 1) for name in "bcdefg"]), tuple([(name, 0) for name in "abcdeh"]),
        ):
            self.assertEqual(put_back(EIGHT, records, late, tuple([bound for _, bound in late])), records)
        for late in (
            (("h", 64),), (("a", 63), ("b", 1)), (("a", 4), ("b", 12)), (("c", 12), ("h", 4)), (("a", 31), ("h", 2)), (("b", 7), ("c", 8)), (("a", 3), ("b", 3), ("c", 3), ("d", 1)),
            tuple([(name, 1) for name in "abcdefg"]), tuple([(name, 0) for name in "abcdefg"]), (*[(name, 1) for name in "abcde"], ("f", 2)),
        ):
            assert_refused(self, BadLate, late, all_lags, EIGHT, records, late)

    def test_lags_to_their_bounds(self):
        records = heard(LINE, PICTURE)
        for lags in ((0, 0), (3, 0), (0, 1), (3, 1)):
            self.assertEqual(len(put_back(LINE, records, LATE, lags)), 3)
        for lags in ((4, 0), (0, 2), (3, 2), (-1, 1)):
            assert_refused(self, BadLags, lags, put_back, LINE, records, LATE, lags)


if __name__ == "__main__":
    unittest.main()
