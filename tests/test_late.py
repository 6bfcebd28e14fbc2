"""Late ears: what section 11 tells of right values."""

import itertools
import random
import unittest
from fractions import Fraction

from earstogether.arrays import heard
from earstogether.choirs import paper, shows_paper
from earstogether.late import all_lags, lags_of, put_back, shows_why_not, why_not, word_of
from earstogether.pictures import picture_of
from tests.array_support import (
    ARRAYS, EIGHT, LINE, ONE_EAR, ONE_PLACE, ONE_WAY, TWO, array_of, heard_slowly, random_array, random_picture,
    random_records,
)
from tests.matrix_support import NOTHING, ONE
from tests.support import Thing, later, whole_row, wrong_tuples

FOUR = array_of((0, 1, 3, 4), (0, 1))


def put_off(array, records, late):
    """The records, later by these lags by NAMES."""
    return tuple([later(row, late.get(name, 0)) for name, row in zip(array.names, records)])


def slowly(array, records, late):
    """All lags that fit, by the pictures that there are."""
    found = []
    for lags in itertools.product(*[range(bound + 1) for _, bound in late]):
        by = {name: -lag for (name, _), lag in zip(late, lags)}
        if picture_of(array, put_off(array, records, by)) is not None:
            found.append(lags)
    return tuple(found)


def cases(seed):
    """Arrays, records with one or two late ears, or wholly others, and LATE."""
    source = random.Random(seed)
    out = []
    for array in ARRAYS + tuple([random_array(source, 5, 4) for _ in range(20)]):
        for many in (1, 2):
            names = sorted(source.sample(array.names, min(many, len(array.names))))
            late = tuple([(name, source.randint(0, 4)) for name in names])
            lags = {name: source.randint(0, bound) for name, bound in late}
            records = put_off(array, heard_slowly(array, random_picture(source, array, 3)), lags)
            out.append((array, records, late, tuple(lags.values())))
        out.append((array, random_records(source, array, 2), late, None))
    return out


class PutBackTest(unittest.TestCase):

    def test_known_ones(self):
        records = (ONE, whole_row(5, 1, 2), NOTHING)
        late = (("a", 3), ("b", 9))
        self.assertEqual(put_back(LINE, records, late, (3, 7)), (later(ONE, -3), whole_row(-2, 1, 2), NOTHING))
        self.assertEqual(put_back(LINE, records, late, (0, 0)), records)
        self.assertEqual(put_back(lags=(2,), late=(("c", 2),), records=records, array=LINE), records)

    def test_as_was_heard(self):
        for array, records, late, lags in cases(141):
            if lags is not None:
                told = put_back(array, records, late, lags)
                self.assertIs(type(told), tuple)
                by = {name: -lag for (name, _), lag in zip(late, lags)}
                self.assertEqual(told, put_off(array, records, by))
                self.assertIsNotNone(picture_of(array, told))


class AllLagsTest(unittest.TestCase):

    def test_as_pictures_tell(self):
        seen = {"none": 0, "one": 0, "all": 0, "some": 0}
        for array, records, late, lags in cases(142):
            told = all_lags(array, records, late)
            self.assertEqual(told, slowly(array, records, late))
            self.assertEqual({type(one) for one in (told, *told)}, {tuple})
            if lags is not None:
                self.assertIn(lags, told)
            many = 1
            for _, bound in late:
                many *= bound + 1
            seen["none" if not told else "all" if len(told) == many else "one" if len(told) == 1 else "some"] += 1
        self.assertGreater(min(seen.values()), 1, seen)

    def test_known_ones(self):
        records = heard(LINE, (ONE, later(whole_row(0, 2), 4)))
        written = put_off(LINE, records, {"c": 2})
        self.assertEqual(all_lags(LINE, written, (("c", 3),)), ((2,),))
        self.assertEqual(all_lags(LINE, written, (("c", 1),)), ())
        self.assertEqual(all_lags(LINE, written, (("a", 5),)), ())
        self.assertEqual(all_lags(late=(("b", 1), ("c", 3)), records=written, array=LINE), ((0, 2),))
        self.assertEqual(all_lags(TWO, records[:2], (("b", 2),)), ((0,), (1,), (2,)))
        self.assertEqual(all_lags(TWO, records[:2], (("a", 1), ("b", 1))), ((0, 0), (0, 1), (1, 0), (1, 1)))

    def test_all_ears_late_alike(self):
        records = heard(LINE, (whole_row(0, 1, 2), whole_row(3, -1, 0, 5)))
        written = put_off(LINE, records, {"a": 2, "b": 2, "c": 2})
        late = (("a", 3), ("b", 3), ("c", 3))
        told = all_lags(LINE, written, late)
        self.assertEqual(told, slowly(LINE, written, late))
        self.assertLessEqual({(0, 0, 0), (1, 1, 1), (2, 2, 2), (3, 3, 3)}, set(told))
        self.assertEqual(all_lags(ONE_EAR, (ONE,), (("a", 5),)), tuple([(k,) for k in range(6)]))

    def test_nothing_is_never_late(self):
        for late in ((("b", 63),), (("a", 7), ("c", 7))):
            told = all_lags(LINE, (NOTHING,) * 3, late)
            self.assertEqual(len(told), 64)
            self.assertEqual(told, tuple(sorted(told)))

    def test_bound_0(self):
        records = heard(LINE, (ONE, ONE))
        self.assertEqual(all_lags(LINE, records, (("a", 0),)), ((0,),))
        self.assertEqual(all_lags(LINE, records, (("a", 0), ("b", 0), ("c", 0))), ((0, 0, 0),))
        self.assertEqual(all_lags(LINE, put_off(LINE, records, {"a": 1}), (("a", 0), ("b", 0))), ())
        self.assertEqual(word_of(LINE, records, (("a", 0),), "a"), "sure")

    def test_bound_63(self):
        records = heard(LINE, (ONE, whole_row(0, 2, 5)))
        for lag in (0, 1, 62, 63):
            written = put_off(LINE, records, {"b": lag})
            self.assertEqual(all_lags(LINE, written, (("b", 63),)), ((lag,),))
            self.assertEqual(all_lags(LINE, written, (("b", 63), ("c", 0))), ((lag, 0),))
        self.assertEqual(all_lags(LINE, put_off(LINE, records, {"b": 64}), (("b", 63),)), ())

    def test_six_late_ears_and_products_of_64(self):
        records = heard(EIGHT, (ONE, whole_row(1, 3), whole_row(0, 1, 1), whole_row(-7, 5)))
        late = tuple([(name, 1) for name in "abcdef"])
        self.assertEqual(all_lags(EIGHT, put_off(EIGHT, records, {"b": 1, "f": 1}), late), ((0, 1, 0, 0, 0, 1),))
        for bounds in ((31, 1), (15, 3), (7, 7), (3, 15), (63, 0)):
            late = (("a", bounds[0]), ("h", bounds[1]))
            self.assertIn((bounds[0], bounds[1]), all_lags(EIGHT, put_off(EIGHT, records, dict(late)), late))
        self.assertEqual(len(all_lags(TWO, records[:2], (("a", 7), ("b", 7)))), len(slowly(TWO, records[:2], (("a", 7), ("b", 7)))))


class LagsOfTest(unittest.TestCase):

    def test_as_all_lags_tell(self):
        for array, records, late, _ in cases(143):
            found = all_lags(array, records, late)
            told = lags_of(array, records, late)
            want = tuple([(name, tuple(sorted({lags[k] for lags in found}))) for k, (name, _) in enumerate(late)])
            self.assertEqual(told, want)

    def test_known_ones(self):
        records = heard(LINE, (ONE, whole_row(4, 2)))
        written = put_off(LINE, records, {"c": 2})
        self.assertEqual(lags_of(LINE, written, (("b", 2), ("c", 3))), (("b", (0,)), ("c", (2,))))
        self.assertEqual(lags_of(late=(("c", 1),), records=written, array=LINE), (("c", ()),))
        self.assertEqual(lags_of(TWO, records[:2], (("b", 2),)), (("b", (0, 1, 2)),))


class WordOfTest(unittest.TestCase):

    def test_as_all_lags_tell(self):
        seen = {"none": 0, "sure": 0, "open": 0}
        for array, records, late, _ in cases(144):
            for name, lags in lags_of(array, records, late):
                word = word_of(array, records, late, name)
                self.assertEqual(word, "none" if not lags else "sure" if len(lags) == 1 else "open")
                seen[word] += 1
        self.assertGreater(min(seen.values()), 5, seen)

    def test_known_ones(self):
        records = heard(LINE, (ONE, whole_row(4, 2)))
        late = (("b", 2), ("c", 3))
        self.assertEqual(word_of(LINE, put_off(LINE, records, {"c": 2}), late, "c"), "sure")
        self.assertEqual(word_of(LINE, put_off(LINE, records, {"a": 1}), (("c", 3),), "c"), "none")
        self.assertEqual(word_of(name="b", late=(("b", 2),), records=records[:2], array=TWO), "open")

    def test_one_ear_sure_and_another_one_open(self):
        array = array_of(((0, 0), (1, 0), (2, 0), (0, 1)), ((1, 0), (0, 0), (0, 1)))
        records = heard(array, (whole_row(0, 1, 3), whole_row(2, 5), ONE))
        late = (("b", 3), ("d", 3))
        written = put_off(array, records, {"b": 2})
        self.assertEqual(all_lags(array, written, late), slowly(array, written, late))
        self.assertEqual([word_of(array, written, late, name) for name in "bd"], ["sure", "open"])


class WhyNotTest(unittest.TestCase):

    def test_a_paper_or_one_of_all_lags(self):
        for array, records, late, _ in cases(145):
            fitting = all_lags(array, records, late)
            for lags in itertools.product(*[range(bound + 1) for _, bound in late]):
                before = put_back(array, records, late, lags)
                told = why_not(array, records, late, lags)
                self.assertIs(told is None, lags in fitting)
                self.assertIs(shows_paper(array, before, told), True)
                self.assertIs(shows_why_not(array, records, late, lags, told), True)
                self.assertIs(shows_why_not(array, records, late, lags, None), lags in fitting)
                self.assertIs(shows_why_not(array, records, late, lags, paper(array, before)), True)

    def test_near_values(self):
        records = put_off(LINE, heard(LINE, (ONE, whole_row(4, 2))), {"c": 2})
        choir = (later(ONE, 1), whole_row(0, -1, -1), ONE)
        late = (("c", 3),)

        def shows(lags, value):
            return shows_why_not(LINE, records, late, lags, value)

        self.assertEqual([shows((lag,), (choir, NOTHING)) for lag in range(4)], [True, True, False, True])
        half = tuple([later(row, -2) for row in choir])
        self.assertIs(shows((0,), (half, NOTHING)), True)
        self.assertIs(shows((0,), (choir, ONE)), False)
        self.assertIs(shows((0,), ((NOTHING,) * 3, NOTHING)), False)
        self.assertIs(shows((0,), (choir[::-1], NOTHING)), False)
        self.assertIs(shows((0,), ((whole_row(1, Fraction(1, 2)), *choir[1:]), NOTHING)), False)
        self.assertIs(shows((0,), None), False)
        self.assertIs(shows((2,), None), True)
        self.assertIs(shows_why_not(value=None, lags=(2,), late=late, records=records, array=LINE), True)

    def test_other_values(self):
        choir = (later(ONE, 1), whole_row(0, -1, -1), ONE)
        records = (ONE, NOTHING, NOTHING)
        values = [True, 0, "", (), [], Thing(), (choir,), [choir, NOTHING], (NOTHING, choir), (choir, None), (choir, NOTHING, 0)]
        values += [(wrong, NOTHING) for wrong in wrong_tuples(choir)]
        for value in values:
            self.assertIs(shows_why_not(LINE, records, (("c", 1),), (1,), value), False, value)

    def test_by_name(self):
        records = heard(FOUR, (ONE, ONE))
        self.assertIsNone(why_not(lags=(0,), late=(("d", 2),), records=records, array=FOUR))
        self.assertIsNotNone(why_not(lags=(1,), late=(("d", 2),), records=records, array=FOUR))

    def test_one_way_and_one_place(self):
        self.assertIsNone(why_not(ONE_WAY, (ONE, later(ONE, 30), later(ONE, 63)), (("c", 3),), (3,)))
        self.assertIsNotNone(why_not(ONE_WAY, (ONE, later(ONE, 30), later(ONE, 63)), (("c", 3),), (2,)))
        self.assertEqual(all_lags(ONE_PLACE, (ONE, later(ONE, 1), later(ONE, 2)), (("b", 3), ("c", 3))), ((1, 2),))


if __name__ == "__main__":
    unittest.main()
