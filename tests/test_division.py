"""Division: what section 5 tells under division.py."""

import random
import unittest
from fractions import Fraction
from math import gcd

from earstogether.division import common, divided, is_multiple, plain
from earstogether.errors import BadRow, BadRows, ByNothing
from earstogether.rows import plus, scaled, shifted, spread, times
from tests.support import (
    NO_ROWS, Thing, assert_refused, is_in_form, numbers, product_of, random_row, random_something, rest_slowly, row_from,
    sum_of, whole_row,
)

NOTHING = (0, ())
ONE = (0, ((1, 1),))


def common_slowly(rows):
    """The greatest common divisor, by fractions and rests alone."""
    found = []
    for row in rows:
        other = [Fraction(*worth) for worth in row[1]]
        while other:
            found, other = other, rest_slowly(found, other)
    if not found:
        return NOTHING
    while found[0] == 0:
        found = found[1:]
    bottom, shared = 1, 0
    for number in found:
        bottom *= number.denominator
    for number in found:
        shared = gcd(shared, int(number * bottom))
    sign = 1 if found[0] > 0 else -1
    return whole_row(0, *[sign * int(number * bottom) // shared for number in found])


class DividedTest(unittest.TestCase):

    def check(self, row, by):
        quotient, rest = told = divided(row, by)
        self.assertIs(type(told), tuple)
        self.assertTrue(is_in_form(quotient))
        self.assertTrue(is_in_form(rest))
        self.assertEqual(sum_of(product_of(by, quotient), rest), row)
        for moment in numbers(rest):
            self.assertIn(moment, range(row[0], row[0] + spread(by)))
        return told

    def test_without_rest(self):
        self.assertEqual(self.check(whole_row(0, 1, 0, 0, 1), whole_row(0, 1, 1)), (whole_row(0, 1, -1, 1), NOTHING))
        self.assertEqual(self.check(whole_row(5, 2, 2), whole_row(-3, 1, 1)), (whole_row(8, 2), NOTHING))

    def test_with_rest(self):
        told = self.check(whole_row(0, 1, 0, 0, 2), whole_row(0, 1, 1))
        self.assertEqual(told, (whole_row(0, 2, -2, 2), whole_row(0, -1)))
        told = self.check(whole_row(-2, 1, 0, 1), whole_row(4, 1, 2))
        self.assertEqual(told, (whole_row(-6, Fraction(-1, 4), Fraction(1, 2)), whole_row(-2, Fraction(5, 4))))

    def test_a_rest_that_begins_later(self):
        self.assertEqual(self.check(whole_row(3, 1, 2, 2), whole_row(0, 1, 1, 1)), (whole_row(3, 2), whole_row(3, -1)))
        self.assertEqual(self.check(whole_row(3, 1, 2, 1), whole_row(0, 1, 1, 1)), (whole_row(3, 1), whole_row(4, 1)))

    def test_a_quotient_with_holes_and_noughts_at_its_low_end(self):
        told = self.check(whole_row(0, 0, 2, 3, 0, 0, 2, 3), whole_row(0, 2, 3))
        self.assertEqual(told, (whole_row(1, 1, 0, 0, 0, 1), NOTHING))
        self.assertEqual(self.check(whole_row(0, 7, 0, 1, 1), whole_row(0, 1, 1)), (whole_row(2, 1), whole_row(0, 7)))

    def test_by_of_spread_0(self):
        row = whole_row(-2, 1, 0, Fraction(1, 3))
        self.assertEqual(self.check(row, whole_row(0, 1)), (row, NOTHING))
        told = self.check(row, whole_row(5, Fraction(-2, 3)))
        self.assertEqual(told, (whole_row(-7, Fraction(-3, 2), 0, Fraction(-1, 2)), NOTHING))

    def test_row_narrower_than_by(self):
        row = whole_row(-2, 3, 1)
        self.assertEqual(self.check(row, whole_row(8, 1, 0, 1)), (NOTHING, row))
        self.assertEqual(self.check(whole_row(4, 7), whole_row(4, 7, 7)), (NOTHING, whole_row(4, 7)))

    def test_row_as_wide_as_by(self):
        row = whole_row(-2, 3, 1)
        self.assertEqual(self.check(row, whole_row(1, 6, 2)), (whole_row(-3, Fraction(1, 2)), NOTHING))
        self.assertEqual(self.check(row, whole_row(0, 1, -1)), (whole_row(-2, -1), whole_row(-2, 4)))

    def test_row_nothing(self):
        for by in (ONE, whole_row(3, 2), whole_row(-3, 1, 0, 1)):
            self.assertEqual(self.check(NOTHING, by), (NOTHING, NOTHING))

    def test_by_nothing(self):
        for row in (NOTHING, ONE, whole_row(3, 1, 2)):
            assert_refused(self, ByNothing, None, divided, row, NOTHING)
            assert_refused(self, ByNothing, None, divided, by=NOTHING, row=row)

    def test_by_whose_last_worth_is_negative_or_a_fraction(self):
        bys = whole_row(0, 1, -2), whole_row(0, 3, Fraction(-2, 3)), whole_row(0, -6, -4), whole_row(1, 5, 0, Fraction(7, 4))
        for by in bys:
            self.check(whole_row(-4, 1, 2, 3, 4, 5), by)
            self.check(whole_row(-4, -1, 0, Fraction(3, 7), 0, -5), by)

    def test_many_at_random(self):
        source = random.Random(9)
        for _ in range(600):
            self.check(random_row(source, 9), random_something(source, 5))

    def test_a_planted_rest(self):
        source = random.Random(10)
        for _ in range(200):
            by, quotient = random_something(source, 5), random_something(source, 6)
            product = product_of(by, quotient)
            rest = row_from({product[0] + k: source.randint(-3, 3) for k in range(1, spread(by))})
            self.assertEqual(divided(sum_of(product, rest), by), (quotient, rest))

    def test_many_worths(self):
        source = random.Random(11)
        bottoms = tuple(range(1, 1000))
        wide = whole_row(0, *[Fraction(source.randint(1, 10 ** 9), source.choice(bottoms)) for _ in range(120)])
        narrow = whole_row(7, *[Fraction(source.randint(1, 10 ** 9), source.choice(bottoms)) for _ in range(40)])
        self.check(wide, narrow)
        self.assertEqual(self.check(times(wide, narrow), narrow), (wide, NOTHING))

    def test_wide_with_holes(self):
        wide = (0, ((-1, 1),) + ((0, 1),) * 99999 + ((1, 1),))
        self.assertEqual(divided(wide, whole_row(0, -1, 1)), ((0, ((1, 1),) * 100000), NOTHING))
        half = (-5, ((1, 1),) + ((0, 1),) * 49999 + ((1, 1),))
        self.assertEqual(divided(wide, half), ((5, ((-1, 1),) + ((0, 1),) * 49999 + ((1, 1),)), NOTHING))

    def test_what_was_told_may_be_handed_in_again(self):
        row, by = whole_row(0, *range(1, 30)), whole_row(0, 999999937, 3, Fraction(999999929, 7))
        for _ in range(4):
            _, rest = self.check(row, by)
            row, by = by, rest
            if not by[1]:
                break
            row = times(row, times(row, plus(row, by)))

    def test_refusals(self):
        for value in NO_ROWS:
            for by in (ONE, NOTHING, (1, ()), None):
                assert_refused(self, BadRow, value, divided, value, by)
            for row in (ONE, NOTHING):
                assert_refused(self, BadRow, value, divided, row, value)
            assert_refused(self, BadRow, value, divided, by=NOTHING, row=value)
            assert_refused(self, BadRow, value, divided, by=value, row=ONE)

    def test_by_name(self):
        self.assertEqual(divided(by=whole_row(1, 2), row=whole_row(3, 6)), (whole_row(2, 3), NOTHING))


class IsMultipleTest(unittest.TestCase):

    def test_ordinary(self):
        step = whole_row(0, 1, 1)
        self.assertIs(is_multiple(whole_row(7, -1, 0, 1), step), True)
        self.assertIs(is_multiple(step, whole_row(7, -1, 0, 1)), False)
        self.assertIs(is_multiple(whole_row(0, 1, 0, 1), step), False)
        self.assertIs(is_multiple(step, step), True)
        self.assertIs(is_multiple(whole_row(0, 1, 2), step), False)

    def test_shifts_and_fractions_do_not_matter(self):
        row, by = whole_row(-9, Fraction(2, 3), 0, Fraction(-2, 3)), whole_row(50, Fraction(-7, 5), Fraction(7, 5))
        self.assertIs(is_multiple(row, by), True)
        self.assertIs(is_multiple(whole_row(0, 1, 1), whole_row(0, 2, 2)), True)
        self.assertIs(is_multiple(whole_row(0, 3, 3), whole_row(0, 6, 6)), True)

    def test_of_spread_0(self):
        for by in (ONE, whole_row(-4, Fraction(7, 3))):
            for row in (ONE, NOTHING, whole_row(3, 1, 0, Fraction(1, 2))):
                self.assertIs(is_multiple(row, by), True)

    def test_nothing_on_either_side(self):
        for row in (ONE, whole_row(3, 1, 2)):
            self.assertIs(is_multiple(NOTHING, row), True)
            self.assertIs(is_multiple(row, NOTHING), False)
        self.assertIs(is_multiple(NOTHING, NOTHING), True)

    def test_as_divided_tells(self):
        source = random.Random(12)
        seen = {True: 0, False: 0}
        for _ in range(600):
            by = random_something(source, 4, 3)
            row = random_row(source, 5, 4)
            if source.random() < 0.3:
                row = product_of(by, row)
            told = is_multiple(row, by)
            self.assertIs(told, divided(row, by)[1] == NOTHING)
            seen[told] += 1
        self.assertGreater(min(seen.values()), 100)

    def test_refusals(self):
        for value in NO_ROWS:
            for by in (ONE, NOTHING, (1, ()), None):
                assert_refused(self, BadRow, value, is_multiple, value, by)
            for row in (ONE, NOTHING):
                assert_refused(self, BadRow, value, is_multiple, row, value)
            assert_refused(self, BadRow, value, is_multiple, by=value, row=ONE)

    def test_by_name(self):
        self.assertIs(is_multiple(by=whole_row(0, 1, 1), row=whole_row(0, 1, 0, -1)), True)

    def test_long_rows(self):
        source = random.Random(17)
        prime = 2 ** 61 - 1
        wide = whole_row(-9, *[source.randint(1, 9) for _ in range(300)])
        for by in (whole_row(0, 3, prime), whole_row(0, prime, 3), whole_row(2, 1, prime, 5), whole_row(0, 5, 7, -3 * prime)):
            self.assertIs(is_multiple(product_of(wide, by), by), True)
            self.assertIs(is_multiple(sum_of(product_of(wide, by), whole_row(40, prime)), by), False)
            self.assertIs(is_multiple(sum_of(product_of(wide, by), whole_row(-9, 1)), by), False)

    def test_far_apart(self):
        far, by = (0, ((1, 1),) + ((0, 1),) * 69999 + ((1, 1),)), whole_row(0, 1, -1, -1)
        self.assertIs(is_multiple(far, by), False)
        self.assertIs(is_multiple(times(far, by), by), True)
        self.assertIs(is_multiple(times(far, by), far), True)


class PlainTest(unittest.TestCase):

    def test_ordinary(self):
        self.assertEqual(plain(whole_row(-1, Fraction(-1, 2), Fraction(1, 3))), ((-1, 6), -1, whole_row(0, 3, -2)))
        self.assertEqual(plain(whole_row(4, 6, 0, -9)), ((3, 1), 4, whole_row(0, 2, 0, -3)))
        self.assertEqual(plain(whole_row(0, Fraction(4, 3), Fraction(2, 9))), ((2, 9), 0, whole_row(0, 6, 1)))

    def test_of_spread_0(self):
        self.assertEqual(plain(whole_row(6, Fraction(3, 2))), ((3, 2), 6, ONE))
        self.assertEqual(plain(whole_row(-6, -5)), ((-5, 1), -6, ONE))

    def test_negative(self):
        self.assertEqual(plain(whole_row(0, -1, 0, 1)), ((-1, 1), 0, whole_row(0, 1, 0, -1)))
        self.assertEqual(plain(whole_row(2, -4, -6)), ((-2, 1), 2, whole_row(0, 2, 3)))
        self.assertEqual(plain(whole_row(2, Fraction(4, 5), -6)), ((2, 5), 2, whole_row(0, 2, -15)))

    def test_in_plain_form_already(self):
        row = whole_row(0, 2, -3, 0, 7)
        self.assertEqual(plain(row), ((1, 1), 0, row))

    def test_at_random(self):
        source = random.Random(13)
        for _ in range(300):
            row = random_something(source, 6, 30, (1, 2, 3, 4, 6, 10, 35))
            fraction, shift, form = plain(row)
            self.assertTrue(is_in_form(form))
            self.assertEqual(form[0], 0)
            self.assertEqual([bottom for _, bottom in form[1]], [1] * len(form[1]))
            self.assertGreater(form[1][0][0], 0)
            shared = 0
            for top, _ in form[1]:
                shared = gcd(shared, top)
            self.assertEqual(shared, 1)
            self.assertEqual(shifted(scaled(form, fraction), shift), row)

    def test_nothing(self):
        assert_refused(self, ByNothing, None, plain, NOTHING)
        assert_refused(self, ByNothing, None, plain, row=NOTHING)

    def test_refusals(self):
        for value in NO_ROWS:
            assert_refused(self, BadRow, value, plain, value)
            assert_refused(self, BadRow, value, plain, row=value)

    def test_by_name(self):
        self.assertEqual(plain(row=whole_row(1, 2)), ((2, 1), 1, ONE))


class CommonTest(unittest.TestCase):

    def test_none_and_nothing_alone(self):
        for rows in ((), (NOTHING,), (NOTHING, NOTHING), (NOTHING,) * 40):
            self.assertEqual(common(rows), NOTHING)

    def test_one_row(self):
        self.assertEqual(common((whole_row(3, -2, 0, 4),)), whole_row(0, 1, 0, -2))
        self.assertEqual(common((whole_row(3, Fraction(1, 2), Fraction(1, 3)),)), whole_row(0, 3, 2))
        self.assertEqual(common((whole_row(-9, Fraction(-5, 2)),)), ONE)

    def test_two_rows(self):
        self.assertEqual(common((whole_row(0, 1, 0, -1), whole_row(2, 1, 2, 1))), whole_row(0, 1, 1))
        self.assertEqual(common((whole_row(0, 1, 1), whole_row(0, 1, 2))), ONE)
        self.assertEqual(common((whole_row(0, 6), whole_row(0, 4, 2))), ONE)
        self.assertEqual(common((whole_row(1, 1, 0, -1), whole_row(-3, -2, 2))), whole_row(0, 1, -1))

    def test_with_nothing_among_them(self):
        row = whole_row(4, 6, 0, -6)
        for rows in ((row, NOTHING), (NOTHING, row), (NOTHING, row, NOTHING, shifted(row, 3))):
            self.assertEqual(common(rows), whole_row(0, 1, 0, -1))

    def test_the_same_row_often(self):
        row = whole_row(-2, 3, 1, Fraction(-1, 2))
        self.assertEqual(common((row,) * 40), whole_row(0, 6, 2, -1))
        self.assertEqual(common((row, scaled(row, (-2, 7)), shifted(row, 9))), whole_row(0, 6, 2, -1))

    def test_none_common_to_all_but_to_each_pair(self):
        a, b, c = whole_row(0, 1, 1), whole_row(0, 1, 2), whole_row(0, 1, 0, 1)
        rows = (times(a, b), times(b, c), times(c, a))
        self.assertEqual(common(rows), ONE)
        self.assertEqual([common(rows[:2]), common(rows[1:]), common((rows[0], rows[2]))], [b, c, a])

    def test_as_rests_tell(self):
        source = random.Random(14)
        for _ in range(600):
            planted = random_something(source, 4, 3)
            rows = [product_of(planted, random_row(source, 5, 3)) for _ in range(source.randint(1, 4))]
            told = common(tuple(rows))
            self.assertEqual(told, common_slowly(rows))
            self.assertTrue(is_in_form(told))
            for row in rows:
                self.assertTrue(is_multiple(row, told))
            if told != NOTHING:
                self.assertTrue(is_multiple(told, planted))
                self.assertEqual(plain(told), ((1, 1), 0, told))
            source.shuffle(rows)
            self.assertEqual(common(tuple(rows)), told)

    def test_small_ones_all(self):
        small = [whole_row(0, *worths) for worths in
                 [(a, b, c) for a in (1, 2) for b in (-2, -1, 0, 1, 3) for c in (-2, -1, 1, 4)]]
        for one in small:
            for other in small:
                self.assertEqual(common((one, other)), common_slowly((one, other)))

    def test_what_is_common_comes_to_little_at_powers_of_2(self):
        for near in (8, 64, 128, 256, 512, 1024, 2048, 65536):
            for step in (-5, -3, -1, 1, 3, 5):
                for scale in (1, 3):
                    shared = whole_row(0, near + step, -scale)
                    rows = [times(shared, whole_row(0, by, 1)) for by in (1, 2, -3, 7)]
                    for other in rows[1:]:
                        self.assertEqual(common((rows[0], other)), common_slowly((rows[0], other)))
                        both = (times(rows[0], other), times(rows[0], rows[0]))
                        self.assertEqual(common(both), common_slowly(both))

    def test_great_worths_in_common(self):
        source = random.Random(15)
        for size, many in ((10 ** 9, 3), (10 ** 60, 3), (10 ** 9, 30), (10 ** 300, 8)):
            planted = whole_row(0, *[source.randint(1, size) for _ in range(many)])
            one, other = [whole_row(0, *[source.randint(-9, 9) or 1 for _ in range(6)]) for _ in range(2)]
            rows = (times(planted, one), times(planted, other))
            told = plain(times(planted, common_slowly((one, other))))[2]
            self.assertEqual([common(rows), common(rows[::-1])], [told, told])

    def test_many_worths_in_another_sequence(self):
        source = random.Random(16)
        bottoms = tuple(range(1, 100))
        planted = whole_row(5, *[Fraction(source.randint(1, 999), source.choice(bottoms)) for _ in range(12)])
        rows = [times(planted, whole_row(0, *[Fraction(source.randint(1, 999), source.choice(bottoms)) for _ in range(60)]))
                for _ in range(40)]
        self.assertEqual(common(tuple(rows)), plain(planted)[2])
        self.assertEqual(common(tuple(rows[::-1])), plain(planted)[2])
        rows[20] = whole_row(0, 1, 1)
        self.assertEqual(common(tuple(rows)), ONE)

    def test_40_and_41_rows(self):
        row, rows = whole_row(0, 2, 2), tuple([whole_row(k, k + 1, k + 1) for k in range(41)])
        self.assertEqual(common(rows[:40]), whole_row(0, 1, 1))
        self.assertEqual(common((row,) * 40), whole_row(0, 1, 1))
        for value in (rows, (row,) * 41, (NOTHING,) * 41, (NOTHING,) * 100):
            assert_refused(self, BadRows, value, common, value)

    def test_refusals(self):
        for value in (True, None, 0, "", "-", [], [ONE], {}, ONE, NOTHING, (0,), ((),), Thing()):
            assert_refused(self, BadRows, value, common, value)
            assert_refused(self, BadRows, value, common, rows=value)
        for wrong in NO_ROWS:
            for value in ((wrong,), (ONE, wrong), (wrong, NOTHING), (ONE, wrong, ONE)):
                assert_refused(self, BadRows, value, common, value)

    def test_by_name(self):
        self.assertEqual(common(rows=(whole_row(2, 4),)), ONE)


if __name__ == "__main__":
    unittest.main()
