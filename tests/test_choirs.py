"""Choirs and papers: what section 9 tells of right values."""

import random
import unittest
from fractions import Fraction

from earstogether.arrays import delays, heard, matrix
from earstogether.choirs import choirs, gains, only_endless, outcome, paper, shows_choirs, shows_paper
from earstogether.matrices import kernel, shows_kernel
from earstogether.pictures import picture_of
from tests.array_support import (
    ARRAYS, EIGHT, LINE, ONE_EAR, ONE_PLACE, ONE_WAY, TWO, array_of, heard_slowly, random_array, random_picture,
    random_records,
)
from tests.matrix_support import NOTHING, ONE, changed
from tests.support import (
    Thing, columns_of, come_to, goes_into, is_in_form, later, product_of, random_row, random_something, rank_at, sum_of,
    total_of, whole_row, wrong_tuples,
)

MINUS = whole_row(0, -1)
MIDDLE = (later(ONE, 1), whole_row(0, -1, -1), ONE)


def arrays(seed, many=40):
    source = random.Random(seed)
    return ARRAYS + tuple([random_array(source) for _ in range(many)])


def times(rows, by):
    return tuple([product_of(row, by) for row in rows])


def all_multiples(rows, by):
    return all([goes_into(by, row) for row in rows])


def outcome_slowly(choir, records):
    return total_of([product_of(row, record) for row, record in zip(choir, records)])


def is_paper(array, records, choir, divisor):
    """Whether the gains are multiples of the divisor, and the outcome isn't, reckoned here."""
    by_ways = [heard_slowly(array, tuple([ONE if k == way else NOTHING for k in range(len(array.ways))]))
               for way in range(len(array.ways))]
    if not all_multiples([outcome_slowly(choir, told) for told in by_ways], divisor):
        return False
    return not goes_into(divisor, outcome_slowly(choir, records))


class OutcomeTest(unittest.TestCase):

    def test_known_ones(self):
        records = (whole_row(0, 1, 2), NOTHING, whole_row(-1, 3))
        self.assertEqual(outcome(LINE, (ONE, ONE, ONE), records), whole_row(-1, 3, 1, 2))
        self.assertEqual(outcome(LINE, (NOTHING, ONE, NOTHING), records), NOTHING)
        self.assertEqual(outcome(records=records, choir=(later(ONE, 2), ONE, MINUS), array=LINE), whole_row(-1, -3, 0, 0, 1, 2))
        self.assertEqual(outcome(LINE, (whole_row(0, 3, 6), ONE, whole_row(1, -1, -4, -4)), records), NOTHING)

    def test_at_random(self):
        source = random.Random(101)
        for array in arrays(102):
            choir, records = random_records(source, array, 4), random_records(source, array, 4)
            told = outcome(array, choir, records)
            self.assertEqual(told, outcome_slowly(choir, records))
            self.assertTrue(is_in_form(told))


class GainsTest(unittest.TestCase):

    def test_known_ones(self):
        self.assertEqual(gains(LINE, (ONE, ONE, ONE)), (whole_row(0, 3), whole_row(0, 1, 1, 1)))
        self.assertEqual(gains(choir=(MINUS, ONE, NOTHING), array=LINE), (NOTHING, whole_row(0, -1, 1)))
        self.assertEqual(gains(LINE, MIDDLE), (NOTHING, NOTHING))

    def test_outcomes_of_clicks(self):
        source = random.Random(103)
        for array in arrays(104):
            choir = random_records(source, array, 4)
            told = gains(array, choir)
            self.assertEqual((type(told), len(told)), (tuple, len(array.ways)))
            for way, gain in enumerate(told):
                click = tuple([ONE if k == way else NOTHING for k in range(len(array.ways))])
                self.assertEqual(gain, outcome_slowly(choir, heard_slowly(array, click)))
                self.assertTrue(is_in_form(gain))

    def test_the_outcome_of_what_is_heard(self):
        source = random.Random(105)
        for array in arrays(106):
            choir, picture = random_records(source, array, 3), random_picture(source, array, 4)
            told = outcome(array, choir, heard(array, picture))
            self.assertEqual(told, total_of([product_of(row, gain) for row, gain in zip(picture, gains(array, choir))]))


class ChoirsTest(unittest.TestCase):

    def test_as_many_as_ears_more_than_the_rank_and_all_silent(self):
        for array in arrays(107):
            told = choirs(array)
            self.assertIs(type(told), tuple)
            self.assertEqual(len(told), len(array.ears) - rank_at(matrix(array)))
            for choir in told:
                self.assertEqual((type(choir), len(choir)), (tuple, len(array.ears)))
                self.assertTrue(all([is_in_form(row) for row in choir]))
                self.assertEqual(come_to(columns_of(matrix(array)), choir), (NOTHING,) * len(array.ways))
            if told:
                self.assertEqual(rank_at(told), len(told))
            self.assertIs(shows_choirs(array, told), True)
            self.assertIs(shows_kernel(columns_of(matrix(array)), told), True)
            self.assertIs(shows_choirs(array, kernel(columns_of(matrix(array)))), True)

    def test_all_silent_ones_are_made_of_them(self):
        source = random.Random(108)
        for array in arrays(109, 15):
            told = choirs(array)
            if not told:
                continue
            silent = kernel(columns_of(matrix(array)))
            by = tuple([random_row(source, 3) for _ in silent])
            self.assertIs(shows_choirs(array, tuple([*told[1:], told[0]])), True)
            made = come_to(columns_of(silent), by)
            self.assertEqual(gains(array, made), (NOTHING,) * len(array.ways))

    def test_known_ones(self):
        self.assertEqual([choirs(TWO), choirs(ONE_EAR)], [(), ()])
        self.assertIs(shows_choirs(LINE, (MIDDLE,)), True)
        self.assertIs(shows_choirs(ONE_PLACE, ((ONE, MINUS, NOTHING), (ONE, NOTHING, MINUS))), True)
        self.assertIs(shows_choirs(ONE_WAY, ((later(ONE, 30), MINUS, NOTHING), (NOTHING, later(ONE, 30), MINUS))), True)
        self.assertIs(shows_choirs(array=array_of((0, 2), (0,)), value=((ONE, MINUS),)), True)

    def test_shown_and_not(self):
        for unit in (ONE, MINUS, whole_row(-8, Fraction(3, 7))):
            self.assertIs(shows_choirs(LINE, (times(MIDDLE, unit),)), True)
        for by in (NOTHING, whole_row(0, 1, 1), whole_row(0, 2, 0, -1)):
            self.assertIs(shows_choirs(LINE, (times(MIDDLE, by),)), False)
        for value in ((), (MIDDLE, MIDDLE), (MIDDLE, (NOTHING,) * 3), ((ONE, MINUS, NOTHING),), (MIDDLE[::-1],)):
            self.assertIs(shows_choirs(LINE, value), False)
        for value in ((), ((NOTHING, NOTHING),)):
            self.assertIs(shows_choirs(TWO, value), value == ())

    def test_changed_ones(self):
        source = random.Random(110)
        for array in [array for array in arrays(111) if choirs(array)]:
            told = choirs(array)
            across, _ = changed(told, source, 1)
            self.assertIs(shows_choirs(array, columns_of(across)), True)
            self.assertIs(shows_choirs(array, (times(told[0], whole_row(0, 1, 3)), *told[1:])), False)
            loud = ((sum_of(told[0][0], ONE), *told[0][1:]), *told[1:])
            self.assertIs(shows_choirs(array, loud), False)
            self.assertIs(shows_choirs(array, told[1:]), False)
            self.assertIs(shows_choirs(array, told + told[:1]), False)
            self.assertIs(shows_choirs(array, told[::-1]), True)

    def test_other_values(self):
        values = [None, True, 0, "", [], {}, Thing(), [MIDDLE], MIDDLE, (None,), ((),), (MIDDLE, None), LINE, (MIDDLE[:2],)]
        values += [(wrong,) for wrong in wrong_tuples(MIDDLE)]
        for value in values:
            self.assertIs(shows_choirs(LINE, value), False, value)


class PaperTest(unittest.TestCase):

    def check(self, array, records):
        """Just one of a picture and a paper is told."""
        told = paper(array, records)
        self.assertIs(shows_paper(array, records, told), True)
        self.assertIs(told is None, picture_of(array, records) is not None)
        self.assertIs(shows_paper(array, records, None), told is None)
        if told is not None:
            choir, divisor = told
            self.assertEqual([type(told), type(choir), len(choir)], [tuple, tuple, len(array.ears)])
            self.assertTrue(all([is_in_form(row) for row in (*choir, divisor)]))
            self.assertTrue(is_paper(array, records, choir, divisor))
        return told

    def test_records_heard(self):
        source = random.Random(112)
        for array in arrays(113):
            self.assertIsNone(self.check(array, heard_slowly(array, random_picture(source, array, 4))))
            self.assertIsNone(self.check(array, (NOTHING,) * len(array.ears)))

    def test_changed_in_one_worth_and_in_one_row(self):
        source = random.Random(114)
        seen = {True: 0, False: 0}
        for array in arrays(115):
            records = heard_slowly(array, random_picture(source, array, 4))
            for ear in range(len(array.ears)):
                for more in (whole_row(source.randint(-3, 3), 1), random_something(source, 3)):
                    other = list(records)
                    other[ear] = sum_of(other[ear], more)
                    seen[self.check(array, tuple(other)) is None] += 1
        self.assertGreater(min(seen.values()), 10)

    def test_one_click(self):
        for array in ARRAYS:
            for ear in range(len(array.ears)):
                click = tuple([later(ONE, 3) if k == ear else NOTHING for k in range(len(array.ears))])
                self.check(array, click)

    def test_known_ones(self):
        click = (ONE, NOTHING, NOTHING)
        self.assertIs(shows_paper(LINE, click, (MIDDLE, NOTHING)), True)
        self.assertIs(shows_paper(TWO, click[:2], ((MINUS, ONE), whole_row(0, -1, 1))), True)
        self.assertIsNotNone(self.check(LINE, click))
        self.assertIsNotNone(self.check(TWO, click[:2]))
        self.assertIsNone(self.check(ONE_EAR, (ONE,)))

    def test_great_numbers(self):
        records = (whole_row(0, 7 ** 400), whole_row(0, Fraction(1, 5 ** 300)), NOTHING)
        self.check(LINE, records)
        self.check(TWO, records[:2])
        self.assertIsNone(self.check(LINE, heard_slowly(LINE, records[:2])))

    def test_equal_calls(self):
        for array in ARRAYS:
            again = array_of([place for _, place in array.ears], array.ways)
            records = (ONE, *[NOTHING] * (len(array.ears) - 1))
            self.assertEqual(paper(array, records), paper(again, tuple(list(records))))
            self.assertEqual(choirs(array), choirs(again))


class ShowsPaperTest(unittest.TestCase):

    def setUp(self):
        self.records = (ONE, NOTHING, NOTHING)
        self.low = ((MINUS, ONE, NOTHING), whole_row(0, -1, 1))

    def shows(self, choir, divisor):
        return shows_paper(LINE, self.records, (choir, divisor))

    def test_others_that_are_papers(self):
        self.assertIs(self.shows(*self.low), True)
        self.assertIs(self.shows(MIDDLE, NOTHING), True)
        self.assertIs(self.shows((NOTHING, MINUS, ONE), NOTHING), False)
        self.assertIs(self.shows(MIDDLE, whole_row(0, 1, 1)), True)
        self.assertIs(self.shows(MIDDLE, whole_row(0, 1, 0, 0, 5)), True)
        self.assertIs(self.shows((MINUS, NOTHING, ONE), whole_row(0, 1, 0, -1)), True)
        self.assertIs(self.shows((MINUS, NOTHING, ONE), whole_row(0, 1, -1)), True)
        self.assertIs(self.shows((MINUS, NOTHING, ONE), whole_row(0, 1, 1)), True)

    def test_units(self):
        for unit in (ONE, MINUS, whole_row(-4, Fraction(2, 9)), whole_row(11, 7)):
            self.assertIs(self.shows(times(self.low[0], unit), self.low[1]), True)
            self.assertIs(self.shows(self.low[0], product_of(self.low[1], unit)), True)
            self.assertIs(self.shows(times(self.low[0], unit), product_of(self.low[1], unit)), True)

    def test_multiples(self):
        for by in (whole_row(0, 1, 1), whole_row(-2, 3, 0, 1)):
            self.assertIs(self.shows(times(self.low[0], by), product_of(self.low[1], by)), True)
            self.assertIs(self.shows(self.low[0], product_of(self.low[1], by)), False)
            self.assertIs(self.shows(times(self.low[0], by), self.low[1]), True)
        self.assertIs(self.shows(times(self.low[0], self.low[1]), self.low[1]), False)
        self.assertIs(self.shows(times(MIDDLE, whole_row(0, 1, 1)), NOTHING), True)
        self.assertIs(self.shows(times(MIDDLE, whole_row(0, 1, 1)), whole_row(0, 1, 1)), False)
        self.assertIs(self.shows((NOTHING,) * 3, NOTHING), False)

    def test_near_ones(self):
        choir, divisor = self.low
        for k in range(3):
            for by in (ONE, whole_row(3, 1, 1)):
                other = list(choir)
                other[k] = sum_of(other[k], by)
                self.assertIs(self.shows(tuple(other), divisor), is_paper(LINE, self.records, other, divisor))
                self.assertIs(self.shows(tuple(other), NOTHING), False)
        for other in (ONE, whole_row(4, 3), whole_row(0, 1, 1), whole_row(0, 1, -2), whole_row(0, 1, 0, -1), NOTHING):
            self.assertIs(self.shows(choir, other), False)
        self.assertIs(self.shows((ONE, ONE, NOTHING), divisor), False)

    def test_at_random_as_reckoned_here(self):
        source = random.Random(116)
        seen = {True: 0, False: 0}
        for array in arrays(117, 20):
            records = random_records(source, array, 2)
            told = paper(array, records)
            for _ in range(6):
                choir = random_records(source, array, 2)
                if told is not None:
                    choir = [sum_of(a, product_of(b, source.choice((NOTHING, told[1])))) for a, b in zip(told[0], choir)]
                for divisor in (random_row(source, 3, 2), NOTHING if told is None else told[1], ONE):
                    shown = shows_paper(array, records, (tuple(choir), divisor))
                    self.assertIs(shown, is_paper(array, records, choir, divisor))
                    seen[shown] += 1
        self.assertGreater(min(seen.values()), 30)

    def test_records_that_are_heard_have_no_paper(self):
        told = heard(LINE, (ONE, later(ONE, 2)))
        for value in (self.low, (MIDDLE, NOTHING), ((ONE, ONE, ONE), whole_row(0, 1, 1))):
            self.assertIs(shows_paper(LINE, told, value), False)
        self.assertIs(shows_paper(LINE, told, None), True)
        self.assertIs(shows_paper(LINE, self.records, None), False)

    def test_other_values(self):
        choir, divisor = self.low
        values = [True, 0, "", (), [], {}, Thing(), [choir, divisor], (choir,), (choir, divisor, divisor), (divisor, choir), choir]
        values += [(choir, None), (None, divisor), (choir, (1, ())), (choir, [0, ()]), (choir, (divisor,)), LINE]
        values += [(wrong, divisor) for wrong in wrong_tuples(choir)]
        for value in values:
            self.assertIs(shows_paper(LINE, self.records, value), False, value)


class OnlyEndlessTest(unittest.TestCase):

    def test_known_ones(self):
        self.assertIs(only_endless(TWO, (ONE, NOTHING)), True)
        self.assertIs(only_endless(TWO, (ONE, ONE)), False)
        self.assertIs(only_endless(LINE, (ONE, NOTHING, NOTHING)), False)
        self.assertIs(only_endless(records=(NOTHING, ONE, whole_row(0, 1, 1)), array=LINE), True)
        self.assertIs(only_endless(LINE, heard(LINE, (ONE, ONE))), False)
        self.assertIs(only_endless(ONE_PLACE, (ONE, ONE, NOTHING)), False)
        self.assertIs(only_endless(array_of((0, 2), (1, -1)), (whole_row(0, 1, 1), NOTHING)), True)
        for array in ARRAYS:
            self.assertIs(only_endless(array, (NOTHING,) * len(array.ears)), False)

    def test_as_choirs_and_pictures_tell(self):
        source = random.Random(118)
        seen = {True: 0, False: 0}
        for array in arrays(119):
            heard_ones = heard_slowly(array, random_picture(source, array, 3))
            for records in (heard_ones, random_records(source, array, 2), of_steps(array)):
                silent = all([outcome_slowly(choir, records) == NOTHING for choir in choirs(array)])
                want = picture_of(array, records) is None and silent
                self.assertIs(only_endless(array, records), want)
                seen[want] += 1
        self.assertGreater(min(seen.values()), 10)

    def test_sounds_that_would_go_on(self):
        for array in (LINE, TWO, EIGHT, array_of(((0, 0), (1, 2), (3, 3)), ((1, 0), (0, 1)))):
            self.assertIs(only_endless(array, of_steps(array)), True)

    def test_eight_ears(self):
        click = (ONE,) * 7 + (NOTHING,)
        self.assertIs(only_endless(EIGHT, click), False)


def of_steps(array):
    """What would be heard if 1 1 1 .. came along the first way without end, and -1 -1 -1 .. along the last one."""
    out = []
    for ear in range(len(array.ears)):
        one, other = delays(array)[ear][0], delays(array)[ear][-1]
        low, high = min(one, other), max(one, other)
        sign = 1 if one <= other else -1
        out.append(whole_row(low, *[sign] * (high - low)))
    return tuple(out)


if __name__ == "__main__":
    unittest.main()
