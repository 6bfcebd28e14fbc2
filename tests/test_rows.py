"""Rows: what section 4 tells of right values."""

import random
import unittest
from fractions import Fraction

from earstogether.rows import less, plus, row_of, scaled, shifted, spread, times, turned, worth
from tests.support import is_in_form, numbers, product_of, random_row, row_from, sum_of, whole_row

NOTHING = (0, ())


class RowOfTest(unittest.TestCase):

    def test_as_it_is(self):
        self.assertEqual(row_of(3, ((1, 1), (-1, 2), (0, 1), (2, 1))), (3, ((1, 1), (-1, 2), (0, 1), (2, 1))))

    def test_noughts_at_both_ends_are_left_out(self):
        worths = ((0, 1), (0, 1), (1, 3), (0, 1), (-2, 1), (0, 1))
        self.assertEqual(row_of(-5, worths), (-3, ((1, 3), (0, 1), (-2, 1))))

    def test_noughts_at_one_end(self):
        self.assertEqual(row_of(4, ((0, 1), (5, 1))), (5, ((5, 1),)))
        self.assertEqual(row_of(4, ((5, 1), (0, 1))), (4, ((5, 1),)))

    def test_nothing(self):
        for worths in ((), ((0, 1),), ((0, 1),) * 7, ((0, 1),) * 200):
            for first in (0, 9, -9):
                self.assertEqual(row_of(first, worths), NOTHING)

    def test_200_worths(self):
        worths = tuple([(k + 1, 1) for k in range(200)])
        self.assertEqual(row_of(-100, worths), (-100, worths))

    def test_by_name(self):
        self.assertEqual(row_of(worths=((0, 1), (1, 2)), first=1), (2, ((1, 2),)))


class SumsTest(unittest.TestCase):

    def test_side_by_side_with_a_hole(self):
        one, other = whole_row(0, 1, 2), whole_row(4, 3)
        self.assertEqual(plus(one, other), whole_row(0, 1, 2, 0, 0, 3))
        self.assertEqual(plus(other, one), whole_row(0, 1, 2, 0, 0, 3))
        self.assertEqual(less(one, other), whole_row(0, 1, 2, 0, 0, -3))
        self.assertEqual(less(other, one), whole_row(0, -1, -2, 0, 0, 3))

    def test_one_within_the_other(self):
        one, other = whole_row(-2, 1, 1, 1, 1, 1), whole_row(-1, Fraction(1, 2), 0, Fraction(-1, 3))
        self.assertEqual(plus(one, other), whole_row(-2, 1, Fraction(3, 2), 1, Fraction(2, 3), 1))
        self.assertEqual(plus(other, one), plus(one, other))
        self.assertEqual(less(one, other), whole_row(-2, 1, Fraction(1, 2), 1, Fraction(4, 3), 1))

    def test_nothing(self):
        row = whole_row(3, 1, 0, -2)
        for one, other in ((row, NOTHING), (NOTHING, row)):
            self.assertEqual(plus(one, other), row)
        self.assertEqual(less(row, NOTHING), row)
        self.assertEqual(less(NOTHING, row), whole_row(3, -1, 0, 2))
        self.assertEqual([plus(NOTHING, NOTHING), less(NOTHING, NOTHING)], [NOTHING, NOTHING])

    def test_nothing_is_at_no_moment(self):
        late = shifted(whole_row(999999999, 1, 2), 999999999 ** 3)
        self.assertEqual([plus(late, NOTHING), plus(NOTHING, late), less(late, NOTHING)], [late, late, late])
        self.assertEqual(less(NOTHING, late), scaled(late, (-1, 1)))

    def test_cancelling_wholly(self):
        row = whole_row(-3, 1, Fraction(-1, 2), 0, 2)
        self.assertEqual(less(row, row), NOTHING)
        self.assertEqual(plus(row, whole_row(-3, -1, Fraction(1, 2), 0, -2)), NOTHING)

    def test_cancelling_at_an_end(self):
        row = whole_row(5, 1, 0, 2, 3)
        self.assertEqual(less(row, whole_row(5, 1)), whole_row(7, 2, 3))
        self.assertEqual(less(row, whole_row(8, 3)), whole_row(5, 1, 0, 2))
        self.assertEqual(less(row, whole_row(7, 2, 3)), whole_row(5, 1))
        self.assertEqual(plus(row, whole_row(5, -1, 0, 0, -3)), whole_row(7, 2))

    def test_fractions_come_to_lowest_terms(self):
        one, other = whole_row(0, Fraction(1, 6)), whole_row(0, Fraction(1, 3))
        self.assertEqual([plus(one, other), less(one, other)], [(0, ((1, 2),)), (0, ((-1, 6),))])
        self.assertEqual(plus(other, whole_row(0, Fraction(2, 3), 1)), (0, ((1, 1), (1, 1))))

    def test_many_at_random(self):
        source = random.Random(4)
        for _ in range(400):
            one, other = random_row(source), random_row(source)
            told, left = plus(one, other), less(one, other)
            self.assertEqual(told, sum_of(one, other))
            self.assertTrue(is_in_form(told))
            self.assertTrue(is_in_form(left))
            self.assertEqual(sum_of(left, other), one)

    def test_by_name(self):
        one, other = whole_row(0, 1), whole_row(1, 1)
        self.assertEqual(plus(other=other, one=one), whole_row(0, 1, 1))
        self.assertEqual(less(other=other, one=one), whole_row(0, 1, -1))

    def test_100000_moments_apart(self):
        told = plus(whole_row(-50000, 1), whole_row(50000, 2))
        self.assertEqual(told, (-50000, ((1, 1),) + ((0, 1),) * 99999 + ((2, 1),)))


class ProductsTest(unittest.TestCase):

    def test_holes_and_negative_moments(self):
        self.assertEqual(times(whole_row(0, 1, 1), whole_row(-1, 1, 0, -1)), whole_row(-1, 1, 1, -1, -1))
        self.assertEqual(times(whole_row(2, 1, 0, 0, 3), whole_row(-7, -1, 0, 2)), whole_row(-5, -1, 0, 2, -3, 0, 6))

    def test_moments_at_which_products_cancel(self):
        self.assertEqual(times(whole_row(0, 1, 1), whole_row(0, 1, -1)), whole_row(0, 1, 0, -1))

    def test_fractions(self):
        one, other = whole_row(0, Fraction(1, 2), Fraction(2, 3)), whole_row(1, Fraction(3, 2), Fraction(-3, 4))
        told = whole_row(1, Fraction(3, 4), 1 - Fraction(3, 8), Fraction(-1, 2))
        self.assertEqual([times(one, other), times(other, one)], [told, told])

    def test_nothing(self):
        row = whole_row(3, 1, 2)
        self.assertEqual([times(row, NOTHING), times(NOTHING, row), times(NOTHING, NOTHING)], [NOTHING] * 3)

    def test_one(self):
        row = whole_row(3, 1, 0, Fraction(2, 7))
        self.assertEqual(times(row, whole_row(0, 1)), row)
        self.assertEqual(times(whole_row(-3, 2), row), whole_row(0, 2, 0, Fraction(4, 7)))

    def test_many_at_random(self):
        source = random.Random(5)
        for _ in range(400):
            one, other = random_row(source), random_row(source)
            told = times(one, other)
            self.assertEqual(told, product_of(one, other))
            self.assertTrue(is_in_form(told))

    def test_many_worths(self):
        source = random.Random(6)
        for many, size, bottoms in ((60, 9, (1,)), (200, 10 ** 9, (1,)), (90, 99, (1, 2, 3, 30, 77))):
            one, other = random_row(source, many, size, bottoms), random_row(source, many, size, bottoms)
            worths = [Fraction(source.randint(-size, size) or 1, source.choice(bottoms)) for _ in range(many)]
            full = whole_row(-9, *worths)
            for row in (one, other, full, turned(full)):
                self.assertEqual(times(full, row), product_of(full, row))

    def test_greatest_worths_of_one_sign(self):
        for size in (-(2 ** 20), -1, 1, 2 ** 20 - 1, 2 ** 20):
            for many in (63, 64, 65, 128):
                row, by = whole_row(0, *[size] * many), whole_row(2, *[-size] * many)
                self.assertEqual(times(row, row), product_of(row, row))
                self.assertEqual(times(row, by), product_of(row, by))

    def test_by_name(self):
        self.assertEqual(times(other=whole_row(1, 2), one=whole_row(1, 3)), whole_row(2, 6))

    def test_wide_with_holes(self):
        told = times((0, ((1, 1),) + ((0, 1),) * 49999 + ((-1, 1),)), (0, ((1, 1),) + ((0, 1),) * 49999 + ((1, 1),)))
        self.assertEqual(told, (0, ((1, 1),) + ((0, 1),) * 99999 + ((-1, 1),)))


class ChangesTest(unittest.TestCase):

    def test_scaled(self):
        row = whole_row(3, 1, Fraction(-1, 2), 0, 2)
        self.assertEqual(scaled(row, (-2, 1)), whole_row(3, -2, 1, 0, -4))
        self.assertEqual(scaled(row, (2, 3)), whole_row(3, Fraction(2, 3), Fraction(-1, 3), 0, Fraction(4, 3)))
        self.assertEqual(scaled(scaled(row, (-5, 7)), (-7, 5)), row)
        self.assertEqual(scaled(row, (1, 1)), row)

    def test_scaled_to_nothing(self):
        self.assertEqual(scaled(whole_row(3, 1, 2), (0, 1)), NOTHING)
        self.assertEqual([scaled(NOTHING, (5, 2)), scaled(NOTHING, (0, 1))], [NOTHING, NOTHING])

    def test_shifted_both_ways(self):
        row = whole_row(3, 1, 0, 2)
        self.assertEqual(shifted(row, 4), whole_row(7, 1, 0, 2))
        self.assertEqual(shifted(row, -4), whole_row(-1, 1, 0, 2))
        self.assertEqual(shifted(shifted(row, 11), -11), row)
        self.assertEqual(shifted(row, 0), row)
        self.assertEqual([shifted(NOTHING, 5), shifted(NOTHING, -5)], [NOTHING, NOTHING])

    def test_turned_there_and_back(self):
        row = whole_row(3, 1, Fraction(-1, 2), 0, 2)
        self.assertEqual(turned(row), whole_row(-6, 2, 0, Fraction(-1, 2), 1))
        self.assertEqual(turned(turned(row)), row)
        self.assertEqual(turned(whole_row(5, 7)), whole_row(-5, 7))
        self.assertEqual(turned(NOTHING), NOTHING)

    def test_turned_at_random(self):
        source = random.Random(7)
        for _ in range(200):
            row = random_row(source)
            self.assertEqual(turned(row), row_from({-m: one for m, one in numbers(row).items()}))

    def test_worth_inside_and_outside(self):
        row = whole_row(-3, 1, 0, Fraction(-1, 2))
        told = [worth(row, moment) for moment in range(-6, 2)]
        self.assertEqual(told, [(0, 1)] * 3 + [(1, 1), (0, 1), (-1, 2)] + [(0, 1)] * 2)
        self.assertEqual([worth(row, -999999999), worth(row, 999999999)], [(0, 1), (0, 1)])
        self.assertEqual([worth(NOTHING, moment) for moment in (-1, 0, 1)], [(0, 1)] * 3)

    def test_spread(self):
        self.assertIsNone(spread(NOTHING))
        self.assertEqual([spread(whole_row(5, 1)), spread(whole_row(-5, 1, 0, 0, 1))], [0, 3])

    def test_by_name(self):
        row = whole_row(1, 2)
        self.assertEqual(scaled(by=(1, 2), row=row), whole_row(1, 1))
        self.assertEqual(shifted(by=2, row=row), whole_row(3, 2))
        self.assertEqual([turned(row=row), worth(moment=1, row=row), spread(row=row)], [whole_row(-1, 2), (2, 1), 0])


class GreatNumbersTest(unittest.TestCase):

    def test_what_was_told_may_be_handed_in_again(self):
        row = whole_row(-999999999, Fraction(999999999, 999999998), Fraction(-999999997, 999999991), 1)
        grown = row
        for _ in range(5):
            told = times(grown, grown)
            self.assertEqual(told, product_of(grown, grown))
            grown = told
        self.assertGreater(abs(grown[0]), 10 ** 10)
        other = shifted(row, grown[0] - row[0])
        self.assertEqual(less(plus(grown, other), other), grown)
        self.assertEqual(plus(grown, other), sum_of(grown, other))
        top, bottom = grown[1][0]
        self.assertEqual(scaled(scaled(grown, (top, bottom)), (bottom, top)), grown)
        self.assertEqual(shifted(shifted(grown, top), -top), grown)
        self.assertEqual(worth(shifted(grown, top), grown[0] + top), (top, bottom))


if __name__ == "__main__":
    unittest.main()
