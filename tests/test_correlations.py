"""Correlations: what section 13 tells of right values."""

import random
import unittest
from fractions import Fraction

from earstogether.correlations import (
    all_alike, are_alike, correlation, form_of, pairs_with, rows_with, shared, shows_shared,
)
from earstogether.rows import scaled, shifted, turned
from tests.correlation_support import (
    MINUS, NOTHING, ONE, OTHERS, PALINDROMES, all_products, correlated, formed, order_of, product_all, some_parts,
    sorted_rows, turned_about,
)
from tests.support import (
    Thing, is_in_form, later, numbers, product_of, random_row, random_something, row_from, sum_of, whole_row, wrong_tuples,
)


def some_rows(seed, many=60, most=8):
    source = random.Random(seed)
    return [NOTHING, ONE, MINUS] + [random_row(source, most) for _ in range(many)]


def relatives(row):
    """Rows that are alike to a row, whatever it is."""
    return [row, later(row, 7), product_of(row, MINUS), turned_about(row), later(product_of(turned_about(row), MINUS), -3)]


class CorrelationTest(unittest.TestCase):

    def test_beside_sums_worth_by_worth(self):
        rows = some_rows(301, 25)
        for one in rows:
            for other in rows:
                told = correlation(one, other)
                self.assertEqual(told, correlated(one, other))
                self.assertTrue(is_in_form(told))

    def test_of_nothing(self):
        for row in some_rows(302, 5):
            self.assertEqual([correlation(row, NOTHING), correlation(NOTHING, row)], [NOTHING, NOTHING])

    def test_which_one_is_moved(self):
        self.assertEqual(correlation(later(ONE, 5), later(ONE, 3)), later(ONE, 2))
        self.assertEqual(correlation(whole_row(0, 1, 2), whole_row(1, 1, -1)), whole_row(-2, -1, -1, 2))
        self.assertEqual(correlation(other=whole_row(1, 1, -1), one=whole_row(0, 1, 2)), whole_row(-2, -1, -1, 2))

    def test_with_itself_the_same_turned(self):
        for row in some_rows(303):
            told = correlation(row, row)
            self.assertEqual(told, turned(told))
            self.assertEqual(numbers(told).get(0, 0), sum([worth ** 2 for worth in numbers(row).values()]))

    def test_the_other_way_round_it_is_turned(self):
        source = random.Random(304)
        for _ in range(40):
            one, other = random_row(source), random_row(source)
            self.assertEqual(correlation(one, other), turned(correlation(other, one)))

    def test_great_ones(self):
        source = random.Random(305)
        one = random_something(source, 90, 999999999, (1, 999999937))
        other = random_something(source, 70, 999999999, (1, 999999929))
        told = correlation(one, other)
        self.assertEqual(told, correlated(one, other))
        self.assertEqual(correlation(told, one), correlated(told, one))


class AreAlikeTest(unittest.TestCase):

    def test_beside_correlations(self):
        rows = some_rows(306, 30, 3)
        for one in rows:
            for other in rows:
                self.assertIs(are_alike(one, other), correlated(one, one) == correlated(other, other))

    def test_relatives(self):
        for row in some_rows(307, 20):
            for other in relatives(row):
                self.assertIs(are_alike(row, other), True)
            if row != NOTHING:
                self.assertIs(are_alike(row, product_of(row, whole_row(0, 2))), False)
                self.assertIs(are_alike(row, product_of(row, whole_row(0, 1, 1))), False)
                self.assertIs(are_alike(row, NOTHING), False)
        self.assertIs(are_alike(NOTHING, NOTHING), True)

    def test_with_some_factors_turned(self):
        source = random.Random(308)
        for _ in range(40):
            u, v = random_something(source, 4), random_something(source, 4)
            self.assertIs(are_alike(product_of(u, v), later(product_of(u, turned_about(v)), source.randint(-5, 5))), True)
        self.assertIs(are_alike(other=whole_row(3, -2, -7, -3), one=whole_row(0, 1, 5, 6)), True)
        self.assertIs(are_alike(whole_row(0, 1, 5, 6), whole_row(0, 2, 7, 4)), False)


class SharedTest(unittest.TestCase):

    def check(self, one, other):
        told = shared(one, other)
        self.assertEqual((type(told), len(told)), (tuple, 2))
        u, v = told
        self.assertTrue(is_in_form(u) and is_in_form(v))
        self.assertEqual(formed(product_of(u, v)), formed(one))
        self.assertEqual(formed(product_of(u, turned_about(v))), formed(other))
        self.assertIs(shows_shared(one, other, told), True)
        self.assertIs(shows_shared(one, other, None), False)

    def test_both_are_made(self):
        source = random.Random(309)
        for _ in range(80):
            u, v = random_something(source, 5), random_something(source, 5)
            by = whole_row(source.randint(-4, 4), source.choice((1, -1)))
            self.check(product_of(u, v), product_of(by, product_of(u, turned_about(v))))
            self.check(product_of(u, turned_about(v)), product_of(u, v))

    def test_with_the_same_factors_on_both_sides(self):
        source = random.Random(310)
        for _ in range(60):
            parts = some_parts(source, 8)
            one = product_all(parts)
            other = product_all([turned_about(part) if source.random() < 0.5 else part for part in parts])
            number = whole_row(source.randint(-3, 3), Fraction(source.choice((-7, -1, 1, 3)), source.choice((1, 2))))
            self.check(product_of(one, number), product_of(other, later(number, 2)))

    def test_known_ones(self):
        self.check(whole_row(0, 1, 5, 6), whole_row(3, -2, -7, -3))
        for row in PALINDROMES + OTHERS:
            for other in relatives(row):
                self.check(row, other)
                self.check(product_of(row, row), product_of(row, other))
        # 1 2 and 2 1 both go into both.
        both = product_of(whole_row(0, 1, 2), whole_row(0, 2, 1))
        self.check(both, both)
        self.check(product_of(both, whole_row(0, 1, 2)), product_of(both, whole_row(0, 2, 1)))

    def test_nothing(self):
        self.check(NOTHING, NOTHING)

    def test_none_just_where_they_are_not_alike(self):
        rows = some_rows(311, 30, 3)
        for one in rows:
            for other in rows:
                if correlated(one, one) == correlated(other, other):
                    self.check(one, other)
                else:
                    self.assertIsNone(shared(one, other))
                    self.assertIs(shows_shared(one, other, None), True)
        self.assertIsNone(shared(other=whole_row(0, 1, 5, 6), one=whole_row(0, 1, 5, 7)))

    def test_wide_and_great(self):
        source = random.Random(312)
        u, v = [random_something(source, 60, 999999999, (1, 1, 999999937)) for _ in range(2)]
        self.check(product_of(u, v), product_of(u, turned_about(v)))
        one = row_from({0: 1, 99000: Fraction(2, 3), 41000: -5})
        self.check(one, later(product_of(one, MINUS), -900))
        self.check(one, later(turned_about(one), 900))


class ShowsSharedTest(unittest.TestCase):

    def setUp(self):
        self.one, self.other = whole_row(0, 1, 5, 6), whole_row(3, -2, -7, -3)
        self.u, self.v = whole_row(0, 1, 3), whole_row(0, 1, 2)

    def shows(self, value):
        return shows_shared(self.one, self.other, value)

    def test_others_that_are_right_too(self):
        for by, back in ((MINUS, MINUS), (later(ONE, 4), later(MINUS, -9)), (ONE, later(MINUS, 3)), (whole_row(2, 3), whole_row(0, Fraction(1, 3)))):
            self.assertIs(self.shows((product_of(self.u, by), product_of(self.v, back))), True)

    def test_near_values(self):
        for u, v in (
            (self.v, self.u), (self.u, turned_about(self.v)), (self.u, self.u), (self.one, ONE), (ONE, self.one), (self.other, ONE),
            (product_of(self.u, whole_row(0, 2)), self.v), (self.u, whole_row(0, 1, -2)), (self.u, whole_row(0, 1, 2, 1)),
            (NOTHING, self.v), (self.u, NOTHING), (NOTHING, NOTHING), (product_of(self.u, self.v), ONE),
        ):
            self.assertIs(self.shows((u, v)), False)
        self.assertIs(shows_shared(self.one, self.one, (self.one, ONE)), True)
        self.assertIs(shows_shared(self.one, turned(self.one), (ONE, self.one)), True)
        self.assertIs(shows_shared(self.one, turned(self.one), (ONE, turned(self.one))), False)

    def test_which_one_is_turned(self):
        self.assertIs(shows_shared(self.other, self.one, (self.u, turned_about(self.v))), True)
        self.assertIs(shows_shared(self.other, self.one, (self.u, self.v)), False)

    def test_not_alike(self):
        for value in ((self.u, self.v), (NOTHING, NOTHING), (self.one, ONE)):
            self.assertIs(shows_shared(self.one, whole_row(0, 2, 7, 4), value), False)
        self.assertIs(shows_shared(value=None, other=NOTHING, one=self.one), True)

    def test_nothing(self):
        for value in ((NOTHING, NOTHING), (NOTHING, self.v), (self.v, NOTHING)):
            self.assertIs(shows_shared(NOTHING, NOTHING, value), True)
        for value in ((self.u, self.v), (ONE, ONE), None):
            self.assertIs(shows_shared(NOTHING, NOTHING, value), False)

    def test_other_values(self):
        for value in wrong_tuples((self.u, self.v)) + [(self.u, self.v, ONE), {self.u: self.v}, Thing]:
            if value is not None:
                self.assertIs(self.shows(value), False, value)


class FormOfTest(unittest.TestCase):

    def test_beside_what_a_form_is(self):
        for row in some_rows(313):
            told = form_of(row)
            self.assertEqual(told, formed(row))
            for other in (later(row, 5), product_of(row, MINUS), later(product_of(row, MINUS), -8), told):
                self.assertEqual(form_of(other), told)

    def test_known_ones(self):
        self.assertEqual(form_of(whole_row(3, -2, -7, -3)), whole_row(0, 2, 7, 3))
        self.assertEqual(form_of(whole_row(-4, Fraction(-1, 2), 0, 5)), whole_row(0, Fraction(1, 2), 0, -5))
        self.assertEqual([form_of(row=NOTHING), form_of(ONE)], [NOTHING, ONE])


class AllAlikeTest(unittest.TestCase):

    def check(self, parts, number=1, shift=0):
        row = later(product_of(product_all(parts), whole_row(0, number)), shift)
        told = all_alike(row)
        self.assertIs(type(told), tuple)
        self.assertEqual(told, all_products(parts, number))
        self.assertTrue(all([is_in_form(one) for one in told]))
        self.assertIn(formed(row), told)
        self.assertEqual(told, tuple(sorted(told, key=order_of)))
        for one in told:
            self.assertEqual(correlated(one, one), correlated(row, row))
        return told

    def test_planted(self):
        source = random.Random(314)
        many = set()
        for _ in range(80):
            parts = some_parts(source, 8)
            number = Fraction(source.choice((-7, -1, 1, 2, 6)), source.choice((1, 2, 5)))
            many.add(len(self.check(parts, number, source.randint(-9, 9))))
        self.assertLessEqual({1, 2, 3, 4, 8}, many)

    def test_a_factor_twice(self):
        one, two = whole_row(0, 1, 2), whole_row(0, 1, 3)
        self.assertEqual(len(self.check([one, one])), 3)
        self.assertEqual(len(self.check([one] * 8)), 9)
        self.assertEqual(len(self.check([one] * 3 + [two] * 5)), 24)
        self.assertEqual(len(self.check([whole_row(0, 1, 1, 2)] * 4)), 5)

    def test_a_factor_and_the_same_turned(self):
        one = whole_row(0, 1, 2)
        self.assertEqual(len(self.check([one, turned_about(one)])), 3)
        self.assertEqual(len(self.check([one, turned_about(one), turned_about(one), whole_row(0, 3, -1)])), 8)

    def test_all_the_same_turned(self):
        for part in PALINDROMES:
            self.assertEqual(self.check([part]), (formed(part),))
            self.assertEqual(len(self.check([part, part], Fraction(-2, 3), 5)), 1)
        self.assertEqual(len(self.check([whole_row(0, 1, 1)] * 4 + [whole_row(0, 1, -1)] * 4)), 1)

    def test_to_spread_8_and_the_most_there_can_be(self):
        parts = [whole_row(0, 1, by) for by in (2, 3, -2, 4, 5, -3, 7, 6)]
        self.assertEqual(len(self.check(parts)), 2 ** 8)
        self.assertEqual(len(self.check([row_from({0: 1, 8: 1})])), 1)
        self.assertEqual(len(self.check([whole_row(0, 2, 0, 0, 0, 0, 0, 0, 0, 3)])), 2)

    def test_sorted_as_numbers(self):
        told = self.check([whole_row(0, 1, 2), whole_row(0, 1, 10)], Fraction(1, 3))
        self.assertEqual([one[1][0] for one in told], [(1, 3), (2, 3), (10, 3), (20, 3)])
        told = self.check([whole_row(0, 1, -2), whole_row(0, 2, 3)])
        self.assertEqual([[top for top, _ in one[1]] for one in told], [[2, -1, -6], [3, -4, -4], [4, 4, -3], [6, 1, -2]])

    def test_spread_0_and_nothing(self):
        self.assertEqual(all_alike(whole_row(5, Fraction(-2, 3))), (whole_row(0, Fraction(2, 3)),))
        self.assertEqual([all_alike(NOTHING), all_alike(row=MINUS)], [(NOTHING,), (ONE,)])

    def test_alike_rows_have_all_the_same(self):
        source = random.Random(315)
        for _ in range(25):
            row = random_something(source, 6, 4, (1, 1, 2))
            told = all_alike(row)
            for other in relatives(row) + list(told):
                self.assertEqual(all_alike(other), told)


class RowsWithTest(unittest.TestCase):

    def test_found_again(self):
        source = random.Random(316)
        for _ in range(80):
            parts = some_parts(source, 4)
            number = Fraction(source.choice((-7, -1, 1, 2, 6)), source.choice((1, 2, 5)))
            row = product_of(product_all(parts), whole_row(source.randint(-5, 5), number))
            told = rows_with(correlated(row, row))
            self.assertIs(type(told), tuple)
            self.assertEqual(told, all_products(parts, number))
            self.assertIn(formed(row), told)
            self.assertEqual(told, all_alike(row))

    def test_each_small_row(self):
        """Among all rows with small whole worths those with a correlation are just the ones that are told."""
        rows = [whole_row(0, a, b, c) for a in range(-2, 3) for b in range(-2, 3) for c in range(-2, 3)]
        table = {}
        for row in rows:
            table.setdefault(correlated(row, row), []).append(formed(row))
        for row, found in table.items():
            told = rows_with(row)
            self.assertLessEqual(set(found), set(told))
            self.assertEqual({correlated(one, one) for one in told}, {row})
            self.assertEqual(told, sorted_rows(told))

    def test_nothing_and_spread_0(self):
        self.assertEqual(rows_with(NOTHING), (NOTHING,))
        self.assertEqual(rows_with(whole_row(0, Fraction(4, 9))), (whole_row(0, Fraction(2, 3)),))
        self.assertEqual([rows_with(whole_row(0, number)) for number in (2, -1, -4, Fraction(1, 2), Fraction(4, 3), Fraction(3, 4))], [()] * 6)
        self.assertEqual([rows_with(whole_row(at, 1)) for at in (-1, 1, 2)], [()] * 3)

    def test_what_is_not_the_same_turned(self):
        for row in (whole_row(0, 2, 5, 2), whole_row(-1, 2, 5, 3), whole_row(-1, 1, 0, -1), whole_row(-2, 2, 5, 2), whole_row(-1, 2, 5),
                    whole_row(0, 1, 2), whole_row(-4, 1, 0, 0, 0, 2, 0, 0, 1), whole_row(-1, 1, 2, 1, 0, 1)):
            self.assertEqual(rows_with(row), ())

    def test_a_factor_the_same_turned_an_odd_number_of_times(self):
        for part in PALINDROMES[2:6]:
            row = later(part, -1)
            self.assertEqual(rows_with(row), ())
            self.assertEqual(rows_with(product_of(row, correlated(OTHERS[0], OTHERS[0]))), ())
            self.assertEqual(len(rows_with(product_of(row, row))), 1)
            self.assertEqual(len(rows_with(product_of(row, product_of(row, correlated(OTHERS[0], OTHERS[0]))))), 2)
        self.assertEqual(rows_with(whole_row(-1, 1, 1, 1)), ())
        self.assertEqual(rows_with(whole_row(-2, 1, 1, 1, 1, 1)), ())

    def test_numbers_that_are_no_squares_and_below_0(self):
        for part in OTHERS[:9]:
            row = correlated(part, part)
            for number in (2, 3, Fraction(1, 2), Fraction(2, 9), 8, -1, -4, Fraction(-1, 9)):
                self.assertEqual(rows_with(product_of(row, whole_row(0, number))), ())
            for root in (2, Fraction(1, 3), Fraction(5, 2)):
                want = tuple([product_of(one, whole_row(0, root)) for one in rows_with(row)])
                self.assertEqual(rows_with(product_of(row, whole_row(0, root * root))), want)
        self.assertEqual(rows_with(whole_row(-1, -1, 2, -1)), (whole_row(0, 1, -1),))
        self.assertEqual(rows_with(whole_row(-1, 1, -2, 1)), ())

    def test_known_ones(self):
        self.assertEqual(rows_with(row=whole_row(-1, 2, 5, 2)), (whole_row(0, 1, 2), whole_row(0, 2, 1)))
        self.assertEqual(rows_with(whole_row(-1, 1, 2, 1)), (whole_row(0, 1, 1),))
        self.assertEqual(rows_with(whole_row(-1, 1, 3, 1)), ())

    def test_great_numbers(self):
        source = random.Random(317)
        row = whole_row(4, *[Fraction(source.randint(1, 10 ** 9 - 1), source.randint(1, 10 ** 9 - 1)) for _ in range(5)])
        told = correlation(row, row)
        self.assertIn(formed(row), rows_with(told))
        # It times itself, it times it turned, and that turned twice.
        self.assertEqual(len(all_alike(told)), 3)
        self.assertIn(formed(told), all_alike(told))


class PairsWithTest(unittest.TestCase):

    def check(self, one, other):
        """That this pair, or it times -1 and shifted, is among those told; and that all told ones are right."""
        told = pairs_with(correlated(one, one), correlated(one, other), correlated(other, other))
        self.assertEqual({type(part) for part in (told, *told)}, {tuple})
        self.assertIn(self.in_form(one, other), told)
        for left, right in told:
            self.assertEqual(correlated(left, left), correlated(one, one))
            self.assertEqual(correlated(left, right), correlated(one, other))
            self.assertEqual(correlated(right, right), correlated(other, other))
            self.assertEqual(self.in_form(left, right), (left, right))
        self.assertEqual(len(set(told)), len(told))
        self.assertEqual(told, tuple(sorted(told, key=lambda pair: (order_of(pair[0]), order_of(pair[1])))))
        return told

    def in_form(self, one, other):
        first, worths = one if one != NOTHING else other
        if not worths:
            return (one, other)
        by = later(whole_row(0, 1 if worths[0][0] > 0 else -1), -first)
        return (product_of(one, by), product_of(other, by))

    def slowly(self, first, cross, second):
        """By all rows with both correlations, the second one moved about, or times -1."""
        found = []
        for one in rows_with(first):
            for other in rows_with(second):
                for sign in (1, -1) if other != NOTHING else (1,):
                    for by in range(-12, 13):
                        right = product_of(other, whole_row(by, sign))
                        if correlated(one, right) == cross and self.in_form(one, right) == (one, right):
                            found.append((one, right))
        return tuple(sorted(set(found), key=lambda pair: (order_of(pair[0]), order_of(pair[1]))))

    def test_planted(self):
        source = random.Random(318)
        many = set()
        for _ in range(50):
            one = product_of(product_all(some_parts(source, 4)), whole_row(source.randint(-3, 3), source.choice((-2, 1))))
            other = product_of(product_all(some_parts(source, 4)), whole_row(source.randint(-3, 3), source.choice((-1, 3))))
            told = self.check(one, other)
            self.assertEqual(told, self.slowly(correlated(one, one), correlated(one, other), correlated(other, other)))
            many.add(len(told))
        self.assertLessEqual({1, 2}, many)

    def test_with_something_in_common(self):
        source = random.Random(319)
        for _ in range(30):
            both = product_all(some_parts(source, 2, False) or [whole_row(0, 1, 2)])
            one, other = [product_of(both, product_all(some_parts(source, 2))) for _ in range(2)]
            self.check(one, other)
        one = whole_row(0, 1, 2)
        self.assertEqual(self.check(one, one), ((one, one), (whole_row(0, 2, 1), whole_row(0, 2, 1))))
        self.assertEqual(len(self.check(product_of(one, whole_row(0, 1, 3)), product_of(one, whole_row(0, 1, -5)))), 2)

    def test_with_nothing_in_common_there_is_but_one(self):
        for one in OTHERS[:6]:
            for other in OTHERS[:6]:
                if one != other:
                    self.assertEqual(self.check(one, other), (self.in_form(one, other),))
                    self.assertEqual(self.check(later(one, 2), product_of(other, later(MINUS, -3))),
                                     ((one, product_of(other, later(MINUS, -5))),))

    def test_one_of_the_three_otherwise(self):
        one, other = whole_row(0, 1, 2), whole_row(0, 1, 3)
        first, cross, second = correlated(one, one), correlated(one, other), correlated(other, other)
        self.assertEqual(pairs_with(first, cross, second), ((one, other),))
        for wrong in (NOTHING, ONE, later(first, 1), product_of(first, whole_row(0, 2)), sum_of(first, ONE), product_of(first, MINUS)):
            self.assertEqual(pairs_with(wrong, cross, second), ())
        for wrong in (NOTHING, ONE, sum_of(cross, ONE), product_of(cross, whole_row(0, 2)), product_of(cross, whole_row(0, 1, 1)), first):
            self.assertEqual(pairs_with(first, wrong, second), ())
        for wrong in (NOTHING, ONE, later(second, -1), product_of(second, whole_row(0, 4)), sum_of(second, ONE), first):
            self.assertEqual(pairs_with(first, cross, wrong), ())
        self.assertEqual(pairs_with(first, later(cross, 4), second), ((one, later(other, -4)),))
        self.assertEqual(pairs_with(first, product_of(cross, MINUS), second), ((one, product_of(other, MINUS)),))
        self.assertEqual(pairs_with(first, turned(cross), second), ((whole_row(0, 2, 1), later(whole_row(0, 3, 1), 0)),))
        self.assertEqual(pairs_with(first, later(product_of(cross, row_from({0: 1, 9000: 3})), 5), second), ())

    def test_with_nothing_in_them(self):
        row = whole_row(3, -1, -2)
        told = correlated(row, row)
        self.assertEqual(self.check(NOTHING, row), ((NOTHING, whole_row(0, 1, 2)), (NOTHING, whole_row(0, 2, 1))))
        self.assertEqual(self.check(row, NOTHING), ((whole_row(0, 1, 2), NOTHING), (whole_row(0, 2, 1), NOTHING)))
        self.assertEqual(self.check(NOTHING, NOTHING), ((NOTHING, NOTHING),))
        self.assertEqual(pairs_with(NOTHING, ONE, told), ())
        self.assertEqual(pairs_with(told, ONE, NOTHING), ())
        self.assertEqual(pairs_with(NOTHING, ONE, NOTHING), ())
        self.assertEqual(pairs_with(told, NOTHING, told), ())

    def test_known_ones(self):
        first, second = whole_row(-1, 2, 5, 2), whole_row(-1, -1, 2, -1)
        self.assertEqual(pairs_with(second=second, cross=whole_row(-1, -1, -1, 2), first=first), ((whole_row(0, 1, 2), whole_row(0, 1, -1)),))
        self.assertEqual(pairs_with(first, whole_row(0, -1, -1, 2), second), ((whole_row(0, 1, 2), whole_row(-1, 1, -1)),))
        self.assertEqual(pairs_with(first, whole_row(0, 1, 0, 0, 1), first), ())

    def test_of_spread_4_both(self):
        parts = [whole_row(0, 1, 2), whole_row(0, 1, 3), whole_row(0, 1, -4), whole_row(0, 2, 5)]
        told = self.check(product_all(parts), product_of(product_all(parts), whole_row(3, Fraction(2, 7))))
        self.assertEqual(len(told), 16)


class OthersTest(unittest.TestCase):

    def test_equal_calls_and_values_stay(self):
        source = random.Random(320)
        for _ in range(20):
            row, other = random_something(source, 4), random_something(source, 4)
            before = repr((row, other))
            again = (row[0], tuple(list(row[1])))
            self.assertEqual(all_alike(row), all_alike(again))
            self.assertEqual(shared(row, turned(row)), shared(again, turned(again)))
            self.assertEqual(shared(row, other), shared(again, other))
            self.assertEqual(repr((row, other)), before)

    def test_scaled_and_shifted(self):
        for row in [row for row in some_rows(321, 20, 5) if row != NOTHING]:
            want = tuple([scaled(one, (3, 2)) for one in all_alike(row)])
            self.assertEqual(all_alike(shifted(scaled(row, (-3, 2)), 9)), want)


if __name__ == "__main__":
    unittest.main()
