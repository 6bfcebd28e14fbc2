"""Factors: what section 5 tells under factors.py."""

import itertools
import random
import unittest
from fractions import Fraction

from earstogether.division import plain
from earstogether.errors import BadRow, ByNothing, TooWide
from earstogether.factors import factors, is_prime
from earstogether.rows import read_row
from tests.support import (
    NO_ROWS, assert_refusals, assert_refused, goes_into, later, product_of, row_from, whole_row,
)

NOTHING = (0, ())
ONE = (0, ((1, 1),))

# In plain form, ascending as factors tells them.
PRIMES = [whole_row(0, *[int(word) for word in line.split()]) for line in (
    "1 -2", "1 -1", "1 1", "1 3", "2 -1", "2 3", "5 -7", "1 -1 1", "1 0 -2", "1 0 1", "1 1 1", "2 -2 1", "2 2 1", "3 0 5",
    "1 0 1 1", "1 1 0 1", "2 0 0 1", "3 3 0 -1", "1 -1 1 -1 1", "1 0 -10 0 1", "1 0 0 0 1", "1 1 1 1 1", "2 0 0 0 1",
    "3 0 0 0 0 1", "4 2 0 0 2 -1", "1 0 0 1 0 0 1", "1 1 1 1 1 1 1", "2 0 0 0 0 0 0 1", "1 0 0 0 0 0 0 0 1",
    "576 0 -960 0 352 0 -40 0 1",
)]

# The prime rows that 1 and 1, with so many moments between them, come apart into.
SUMS_OF_POWERS = {
    1: "1 1", 2: "1 0 1", 3: "1 1 | 1 -1 1", 4: "1 0 0 0 1", 5: "1 1 | 1 -1 1 -1 1", 6: "1 0 1 | 1 0 -1 0 1",
    7: "1 1 | 1 -1 1 -1 1 -1 1", 8: "1 0 0 0 0 0 0 0 1",
}
DIFFERENCES_OF_POWERS = {
    1: "1 -1", 2: "1 -1 | 1 1", 3: "1 -1 | 1 1 1", 4: "1 -1 | 1 1 | 1 0 1", 5: "1 -1 | 1 1 1 1 1",
    6: "1 -1 | 1 1 | 1 -1 1 | 1 1 1", 7: "1 -1 | 1 1 1 1 1 1 1", 8: "1 -1 | 1 1 | 1 0 1 | 1 0 0 0 1",
}


def spread(row):
    return len(row[1]) - 1


def order_of(row):
    return (spread(row), [Fraction(*worth) for worth in row[1]])


def power_product(pairs):
    out = ONE
    for row, many in pairs:
        for _ in range(many):
            out = product_of(out, row)
    return out


def found_in(text):
    return tuple([(read_row("0: " + part), 1) for part in text.split(" | ")])


class FactorsTest(unittest.TestCase):

    def check(self, row):
        fraction, shift, found = told = factors(row)
        self.assertEqual([type(part) for part in (told, fraction, shift, found)], [tuple, tuple, int, tuple])
        back = product_of(later((0, (fraction,)), shift), power_product(found))
        self.assertEqual(back, row)
        for part, many in found:
            self.assertIs(type(many), int)
            self.assertGreaterEqual(many, 1)
            self.assertGreaterEqual(spread(part), 1)
            self.assertEqual(plain(part), ((1, 1), 0, part))
            self.assertIs(is_prime(part), True)
        orders = [order_of(part) for part, _ in found]
        self.assertEqual(orders, sorted(orders))
        self.assertEqual(len({part for part, _ in found}), len(found))
        return told

    def check_planted(self, pairs, fraction=(1, 1), shift=0):
        """That just these primes, ascending, are found."""
        row = later(product_of(power_product(pairs), (0, (fraction,))), shift)
        self.assertEqual(self.check(row), (fraction, shift, tuple(pairs)))

    def test_known_primes_are_given_ascending(self):
        self.assertEqual(PRIMES, sorted(PRIMES, key=order_of))

    def test_primes_alone(self):
        for row in PRIMES:
            self.check_planted([(row, 1)])
            self.check_planted([(row, 1)], (-3, 2), 5)
            self.assertIs(is_prime(row), True)

    def test_all_pairs_and_squares(self):
        for one, other in itertools.combinations_with_replacement(PRIMES, 2):
            if spread(one) + spread(other) <= 8:
                pairs = [(one, 2)] if one == other else [(one, 1), (other, 1)]
                self.check_planted(pairs, (5, 7), -4)

    def test_planted_at_random(self):
        source = random.Random(21)
        for _ in range(250):
            lot = {}
            left = 8
            while left and source.random() < 0.9:
                part = source.choice([row for row in PRIMES if spread(row) <= left])
                lot[part] = lot.get(part, 0) + 1
                left -= spread(part)
            fraction = Fraction(source.choice((-7, -1, 1, 2, 6)), source.choice((1, 2, 5)))
            pairs = sorted(lot.items(), key=lambda pair: order_of(pair[0]))
            self.check_planted(pairs, (fraction.numerator, fraction.denominator), source.randint(-9, 9))

    def test_up_to_eight_times_the_same(self):
        for many in range(1, 9):
            self.check_planted([(whole_row(0, 2, -3), many)], (-1, 3), many)
        for many in range(1, 5):
            self.check_planted([(whole_row(0, 2, -3, 4), many)], (1, 1), -many)
        self.check_planted([(whole_row(0, 1, -1), 4), (whole_row(0, 1, 1), 4)])
        self.check_planted([(whole_row(0, 1, 0, 0, 0, 1), 2)])

    def test_only_rows_of_spread_2_3_or_4(self):
        self.assertEqual(factors(whole_row(0, 4, 0, 0, 0, 1))[2], found_in("2 -2 1 | 2 2 1"))
        self.assertEqual(factors(whole_row(0, 1, 0, 1, 0, 1))[2], found_in("1 -1 1 | 1 1 1"))
        self.assertEqual(factors(whole_row(0, 1, 0, 0, 0, 1, 0, 0, 0, 1))[2], found_in("1 -1 1 | 1 1 1 | 1 0 -1 0 1"))
        self.check_planted([(whole_row(0, 1, 0, 1, 1), 1), (whole_row(0, 1, 1, 0, 1), 1)])
        self.check_planted([(whole_row(0, 1, 0, 0, 0, 1), 1), (whole_row(0, 2, 0, 0, 0, 1), 1)])
        self.check_planted([(whole_row(0, 1, -1, 1, -1, 1), 1), (whole_row(0, 1, 1, 1, 1, 1), 1)])

    def test_none_that_comes_apart(self):
        for text in ("1 0 0 0 1", "1 0 -10 0 1", "576 0 -960 0 352 0 -40 0 1", "1 1 1 1 1 1 1", "2 0 0 0 0 0 0 0 1"):
            row = read_row("0: " + text)
            self.assertEqual(factors(row), ((1, 1), 0, ((row, 1),)))

    def test_sums_of_powers(self):
        for by, text in SUMS_OF_POWERS.items():
            self.assertEqual(factors(row_from({0: 1, by: 1})), ((1, 1), 0, found_in(text)))
            self.assertEqual(factors(row_from({-3: -2, by - 3: -2})), ((-2, 1), -3, found_in(text)))
        for by, text in DIFFERENCES_OF_POWERS.items():
            self.assertEqual(factors(row_from({0: 1, by: -1})), ((1, 1), 0, found_in(text)))
            self.assertEqual(factors(row_from({0: -1, by: 1})), ((-1, 1), 0, found_in(text)))

    def test_worths_that_are_powers_themselves(self):
        self.assertEqual(factors(whole_row(0, 8, 0, 0, 27))[2], found_in("2 3 | 4 -6 9"))
        self.assertEqual(factors(whole_row(0, 16, 0, 0, 0, -81))[2], found_in("2 -3 | 2 3 | 4 0 9"))
        self.assertEqual(factors(whole_row(0, Fraction(1, 4), 0, Fraction(-1, 9))), ((1, 36), 0, found_in("3 -2 | 3 2")))

    def test_spread_0_and_1(self):
        self.assertEqual(factors(whole_row(6, Fraction(3, 2))), ((3, 2), 6, ()))
        self.assertEqual(factors(whole_row(-2, -5)), ((-5, 1), -2, ()))
        self.assertEqual(factors(whole_row(4, -6, 4)), ((-2, 1), 4, ((whole_row(0, 3, -2), 1),)))
        self.assertEqual(factors(whole_row(0, Fraction(1, 6), 1)), ((1, 6), 0, ((whole_row(0, 1, 6), 1),)))

    def test_great_and_negative_worths_and_fractions(self):
        self.check_planted([(whole_row(0, 999999937, -999999929), 1), (whole_row(0, 999999937, 999999929), 1)], (-7, 9))
        great = [whole_row(0, 10 ** 40 + 1, 10 ** 39 + 7), whole_row(0, 10 ** 40 + 1, 1, 10 ** 41 + 3)]
        self.check_planted([(row, 1) for row in great], (10 ** 30, 7), 11)
        self.check_planted([(great[0], 3), (great[1], 2)], (-1, 10 ** 30), -11)

    def test_last_worths_in_which_all_small_primes_are(self):
        small = 3 * 5 * 7 * 11 * 13 * 17 * 19 * 23
        self.check_planted([(whole_row(0, 1, small), 1), (whole_row(0, 2, 3), 1)])
        self.check_planted([(whole_row(0, 1, 0, 5 * small), 1), (whole_row(0, 2, -1, 0, small), 1)], (-2, 3), 4)
        self.check_planted([(whole_row(0, small, 1, 29 * small), 2)])

    def test_what_was_told_may_be_handed_in_again(self):
        source = random.Random(22)
        for digits in (9, 60, 200):
            worths = [[source.randint(1, 10 ** digits) for _ in range(many)] for many in (2, 3, 4)]
            row = ONE
            for part in worths:
                row = product_of(row, whole_row(0, *part))
            told = self.check(row)
            self.assertGreaterEqual(len(told[2]), 3)

    def test_small_rows_all_beside_another_way(self):
        for worths in itertools.product((-1, 0, 1), repeat=5):
            for first in (1, 2, 3):
                row = whole_row(0, first, *worths)
                if spread(row) > 0:
                    _, _, found = self.check(row)
                    for part, _ in found:
                        self.assertFalse(comes_apart(part), part)


def divisors(number):
    number = abs(number)
    return [by for k in range(1, number + 1) if number % k == 0 for by in (k, -k)]


def comes_apart(row):
    """Whether some row of spread 1, or 2, goes into this one, by Kronecker's way: tells all up to spread 5."""
    whole = [worth[0] for worth in row[1]]
    values = [sum([number * point ** k for k, number in enumerate(whole)]) for point in (0, 1, -1)]
    if spread(row) == 1:
        return False
    if 0 in values:
        return True
    for a, b in itertools.product(divisors(values[0]), divisors(values[1])):
        if b != a and goes_into(whole_row(0, a, b - a), row):
            return True
    if spread(row) < 4:
        return False
    for a, b, c in itertools.product(*[divisors(value) for value in values]):
        if (b + c) % 2 == 0 and (b + c) // 2 != a:
            if goes_into(whole_row(0, a, (b - c) // 2, (b + c) // 2 - a), row):
                return True
    return False


class IsPrimeTest(unittest.TestCase):

    def test_nothing_and_spread_0(self):
        for row in (NOTHING, ONE, whole_row(4, Fraction(-7, 3))):
            self.assertIs(is_prime(row), False)

    def test_spread_1(self):
        for row in (whole_row(0, 1, 1), whole_row(-5, Fraction(-1, 2), 7), whole_row(3, 4, -6)):
            self.assertIs(is_prime(row), True)

    def test_shifts_and_fractions_do_not_matter(self):
        for row in PRIMES:
            self.assertIs(is_prime(later(product_of(row, whole_row(0, Fraction(-6, 5))), -7)), True)

    def test_products(self):
        for one, other in itertools.combinations_with_replacement(PRIMES, 2):
            if spread(one) + spread(other) <= 8:
                self.assertIs(is_prime(later(product_of(one, other), 3)), False)

    def test_spread_8(self):
        self.assertIs(is_prime(row_from({0: 1, 8: 1})), True)
        self.assertIs(is_prime(row_from({0: 1, 8: -1})), False)


class RefusalsTest(unittest.TestCase):

    def test_rows(self):
        for look in (factors, is_prime):
            assert_refusals(self, look, {"row": PRIMES[3]}, {"row": (BadRow, NO_ROWS)})

    def test_nothing(self):
        assert_refused(self, ByNothing, None, factors, NOTHING)
        assert_refused(self, ByNothing, None, factors, row=NOTHING)

    def test_too_wide(self):
        for wide in (9, 10, 40, 5000):
            row = row_from({-3: 1, wide - 3: 1})
            for look in (factors, is_prime):
                for told in ((lambda: look(row)), (lambda: look(row=row))):
                    with self.assertRaises(TooWide) as caught:
                        told()
                    self.assertEqual(repr(caught.exception.value), str(wide))

    def test_spread_8_is_not_too_wide(self):
        self.assertEqual(len(factors(row_from({50: 1, 58: -1}))[2]), 4)

    def test_the_other_way_itself(self):
        self.assertTrue(comes_apart(whole_row(0, 4, 0, 0, 0, 1)))
        self.assertFalse(comes_apart(whole_row(0, 1, 0, 0, 0, 1)))


if __name__ == "__main__":
    unittest.main()
