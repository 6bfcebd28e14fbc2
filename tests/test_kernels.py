"""Matrices: kernel and solved, as section 7 tells of right values."""

import itertools
import random
import unittest
from fractions import Fraction

from earstogether.arrays import matrix as matrix_of
from earstogether.matrices import kernel, product, rank, shows_kernel, shows_solved, solved
from earstogether.solving import Steps
from tests.array_support import ARRAYS, random_array
from tests.matrix_support import NOTHING, ONE, changed, random_matrix, slow_determinant, units
from tests.support import (
    Thing, columns_of, come_to, goes_into, is_in_form, later, product_of, random_row, rank_at, sum_of, whole_row,
    wrong_tuples,
)


def matrices():
    source = random.Random(61)
    out = [random_matrix(source, lines, columns) for lines in range(1, 9) for columns in range(1, 9)]
    out += [matrix_of(array) for array in ARRAYS]
    out += [matrix_of(random_array(source)) for _ in range(20)]
    out += [random_matrix(source, 2, 4, 2, 2, (1, 2), 0.5) for _ in range(20)]
    out += [((NOTHING,) * 3,) * 2, ((NOTHING,),), ((ONE,) * 8,) * 8, units(8)]
    return out


def minors_that_come_to_nothing(matrix, lines, columns):
    """What Cramer's rule tells of these columns, one more than lines: the lines come to nothing by it."""
    out = [NOTHING] * len(matrix[0])
    for at, column in enumerate(columns):
        left = [k for k in columns if k != column]
        part = slow_determinant([tuple([matrix[line][k] for k in left]) for line in lines])
        out[column] = product_of(part, whole_row(0, (-1) ** at))
    return tuple(out)


class KernelTest(unittest.TestCase):

    def test_as_many_as_lack_and_all_come_to_nothing(self):
        for matrix in matrices():
            told = kernel(matrix)
            self.assertIs(type(told), tuple)
            self.assertEqual(len(told), len(matrix[0]) - rank_at(matrix))
            for rows in told:
                self.assertEqual((type(rows), len(rows)), (tuple, len(matrix[0])))
                self.assertTrue(all([is_in_form(row) for row in rows]))
                self.assertEqual(come_to(matrix, rows), (NOTHING,) * len(matrix))
            self.assertIs(shows_kernel(matrix, told), True)
            if told:
                self.assertEqual(rank_at(told), len(told))

    def test_minors_are_sums_of_them(self):
        for matrix in matrices():
            many = rank_at(matrix)
            if many == len(matrix[0]) or many > 3:
                continue
            lines = next(lot for lot in itertools.combinations(range(len(matrix)), many)
                         if rank_at([matrix[k] for k in lot]) == many)
            across = columns_of(kernel(matrix))
            for columns in list(itertools.combinations(range(len(matrix[0])), many + 1))[:12]:
                rows = minors_that_come_to_nothing(matrix, lines, columns)
                self.assertEqual(come_to(matrix, rows), (NOTHING,) * len(matrix))
                shares = solved(across, rows)
                self.assertEqual(come_to(across, shares), rows)

    def test_planted(self):
        """Columns that are nothing, changed: their kernel is the changer's last columns, all of it."""
        source = random.Random(62)
        for lines, columns, tops in ((1, 2, 1), (2, 3, 2), (3, 4, 2), (2, 5, 1), (4, 4, 3), (3, 3, 0), (5, 3, 2)):
            for _ in range(4):
                planted = [list(column) for column in columns_of(random_matrix(source, lines, tops, 2, 2, (1,), 0))]
                if tops and rank_at(columns_of(planted)) < tops:
                    continue
                planted += [[NOTHING] * lines for _ in range(columns - tops)]
                matrix, back = changed(planted, source, 1)
                # back takes planted to matrix; so the kernel is what back takes to the last units.
                inverse = [solved(back, unit) for unit in units(columns)]
                told = tuple(inverse[tops:])
                self.assertIs(shows_kernel(matrix, told), True)
                self.assertEqual(len(kernel(matrix)), columns - tops)

    def test_known_ones(self):
        self.assertEqual([kernel(units(3)), kernel(matrix=((ONE,),))], [(), ()])
        self.assertIs(shows_kernel(((NOTHING,) * 3,), units(3)), True)
        step, other = whole_row(0, 1, -1), whole_row(0, 1, 0, -1)
        self.assertIs(shows_kernel(((other, step),), ((ONE, whole_row(0, -1, -1)),)), True)
        self.assertIs(shows_kernel(((other, step),), ((step, product_of(other, whole_row(0, -1))),)), False)

    def test_equal_calls(self):
        for matrix in matrices()[:50]:
            self.assertEqual(kernel(matrix), kernel(tuple([tuple(list(line)) for line in matrix])))

    def test_what_was_told_may_be_handed_in_again(self):
        source = random.Random(63)
        told = kernel(random_matrix(source, 2, 5, 3, 999999999, (1, 999999929), 0))
        again = kernel(told)
        self.assertEqual(len(again), 2)
        self.assertEqual(product(told, columns_of(again)), ((NOTHING,) * 2,) * 3)


class ShowsKernelTest(unittest.TestCase):

    def setUp(self):
        self.three = ((ONE, ONE, ONE), (ONE, later(ONE, 2), later(ONE, 4)))
        self.rows = (later(ONE, 2), whole_row(0, -1, 0, -1), ONE)

    def shows(self, *rows):
        return shows_kernel(self.three, rows)

    def times(self, by):
        return tuple([product_of(row, by) for row in self.rows])

    def test_units(self):
        for unit in (ONE, whole_row(0, -1), whole_row(7, Fraction(3, 5)), whole_row(-7, -2)):
            self.assertIs(self.shows(self.times(unit)), True)

    def test_multiples_by_other_rows(self):
        for by in (whole_row(0, 1, 1), whole_row(-3, 2, 0, 0, -1), NOTHING):
            self.assertIs(self.shows(self.times(by)), False)

    def test_too_few_too_many_twice(self):
        self.assertIs(shows_kernel(self.three, ()), False)
        self.assertIs(self.shows(self.rows, self.rows), False)
        self.assertIs(self.shows(self.rows, (NOTHING,) * 3), False)
        wide = ((NOTHING,) * 3,)
        for value in (units(3)[:2], units(3) + units(3)[:1], (units(3)[0],) * 3, units(3)[:2] + units(3)[:1], ()):
            self.assertIs(shows_kernel(wide, value), False)

    def test_all_bases(self):
        source = random.Random(64)
        for matrix in ([matrix for matrix in matrices() if len(matrix[0]) - rank_at(matrix) in (1, 2, 3)])[:40]:
            told = kernel(matrix)
            across, _ = changed(told, source, 1)
            self.assertIs(shows_kernel(matrix, columns_of(across)), True)
            wide = tuple([product_of(row, whole_row(0, 2, -1)) for row in told[0]])
            self.assertIs(shows_kernel(matrix, (wide, *told[1:])), False)
            self.assertIs(shows_kernel(matrix, told[1:]), False)
            if len(told) > 1:
                more = tuple([sum_of(product_of(a, whole_row(0, 1, 1)), b) for a, b in zip(told[0], told[1])])
                self.assertIs(shows_kernel(matrix, (more, *told[1:])), False)
                self.assertIs(shows_kernel(matrix, (told[0], more, *told[2:])), True)
                self.assertIs(shows_kernel(matrix, told[::-1]), True)

    def test_changed_ones(self):
        for k in range(3):
            for by in (ONE, whole_row(3, 1, 2), whole_row(0, -1)):
                rows = list(self.rows)
                rows[k] = sum_of(rows[k], by)
                self.assertIs(self.shows(tuple(rows)), False)
        self.assertIs(self.shows((ONE, whole_row(0, -1), NOTHING)), False)
        self.assertIs(self.shows(self.rows[::-1]), False)

    def test_no_kernel(self):
        for value in ((), (units(2)[0],), ((NOTHING, NOTHING),), None):
            self.assertIs(shows_kernel(((ONE, ONE), (ONE, later(ONE, 1))), value), value == ())

    def test_values_that_are_none(self):
        values = [None, True, 0, "", [], {}, Thing(), [self.rows], self.rows, (self.rows, None), ((),), (self.rows[:2],)]
        values += [(wrong,) for wrong in wrong_tuples(self.rows)]
        for value in values:
            self.assertIs(shows_kernel(self.three, value), False, value)


class SolvedTest(unittest.TestCase):

    def check(self, matrix, column):
        """What is told: ROWS that come to the column, or none, and then a choir shows that there are none."""
        told = solved(matrix, column)
        self.assertIs(shows_solved(matrix, column, told), True)
        if told is not None:
            self.assertEqual((type(told), len(told)), (tuple, len(matrix[0])))
            self.assertTrue(all([is_in_form(row) for row in told]))
            self.assertEqual(come_to(matrix, told), column)
            self.assertIs(shows_solved(matrix, column, None), False)
            return told
        choir, divisor = Steps(matrix).reason(column)
        for gain in come_to(columns_of(matrix), choir):
            self.assertTrue(goes_into(divisor, gain))
        self.assertFalse(goes_into(divisor, come_to((choir,), column)[0]))
        return None

    def test_where_there_is_one(self):
        source = random.Random(65)
        for matrix in matrices():
            for bottoms in ((1,), (1, 2, 3, 10)):
                rows = tuple([random_row(source, 4, 5, bottoms) for _ in matrix[0]])
                column = come_to(matrix, rows)
                told = self.check(matrix, column)
                self.assertIsNotNone(told)
                if rank_at(matrix) == len(matrix[0]):
                    self.assertEqual(told, rows)

    def test_random_columns(self):
        source = random.Random(66)
        seen = {True: 0, False: 0}
        for matrix in matrices():
            column = tuple([random_row(source, 3, 3) for _ in matrix])
            seen[self.check(matrix, column) is None] += 1
        self.assertGreater(min(seen.values()), 3)

    def test_nothing(self):
        for matrix in matrices()[:30]:
            self.assertEqual(come_to(matrix, self.check(matrix, (NOTHING,) * len(matrix))), (NOTHING,) * len(matrix))

    def test_only_a_division_leaves_a_rest(self):
        source = random.Random(67)
        none = 0
        for _ in range(60):
            lines, columns = source.randint(1, 3), source.randint(1, 4)
            matrix = random_matrix(source, lines, columns, 3, 2, (1,), 0.1)
            by = whole_row(0, 1, source.choice((-2, 1, 3)))
            wide = tuple([tuple([product_of(row, by) for row in line]) for line in matrix])
            rows = tuple([random_row(source, 3, 3) for _ in range(columns)])
            column = come_to(matrix, rows)
            told = self.check(wide, column)
            if not all([goes_into(by, row) for row in column]):
                self.assertIsNone(told)
                none += 1
            self.assertIsNotNone(self.check(wide, tuple([product_of(row, by) for row in column])))
        self.assertGreater(none, 20)

    def test_the_last_line_alone_leaves_a_rest(self):
        two = ((ONE, ONE), (ONE, later(ONE, 2)))
        self.assertEqual(self.check(two, (ONE, later(ONE, 2))), (NOTHING, ONE))
        self.assertEqual(self.check(two, (ONE, later(ONE, 4))), (whole_row(2, -1), whole_row(0, 1, 0, 1)))
        self.assertIsNone(self.check(two, (ONE, later(ONE, 1))))
        self.assertIsNone(self.check(two, (ONE, NOTHING)))

    def test_what_nothing_comes_near(self):
        lines = ((ONE, whole_row(0, 2)), (whole_row(1, 1), whole_row(1, 2)))
        self.assertIsNone(self.check(lines, (ONE, ONE)))
        self.assertIsNone(self.check(lines, (NOTHING, ONE)))
        self.assertIsNotNone(self.check(lines, (ONE, later(ONE, 1))))
        self.assertIsNone(self.check(((NOTHING,), (NOTHING,)), (NOTHING, ONE)))
        self.assertIsNone(self.check(((NOTHING, ONE), (NOTHING, NOTHING)), (ONE, ONE)))

    def test_a_line_of_nothing(self):
        lines = ((NOTHING, NOTHING), (ONE, whole_row(0, 1, 1)))
        self.assertIsNone(self.check(lines, (ONE, ONE)))
        self.assertIsNotNone(self.check(lines, (NOTHING, whole_row(-5, 1, 2, 3))))

    def test_fractions_and_negative_moments(self):
        lines = ((whole_row(-2, Fraction(2, 3)), whole_row(5, 7)), (whole_row(1, Fraction(-1, 2), 1), whole_row(0, 3)))
        rows = (whole_row(-9, Fraction(5, 4), 1), whole_row(30, Fraction(-1, 11)))
        self.assertEqual(self.check(lines, come_to(lines, rows)), rows)

    def test_equal_calls(self):
        for matrix in matrices()[:30]:
            column = tuple([matrix[k][0] for k in range(len(matrix))])
            self.assertEqual(solved(matrix, column), solved(tuple([tuple(list(line)) for line in matrix]), column))

    def test_what_was_told_may_be_handed_in_again(self):
        source = random.Random(68)
        matrix = random_matrix(source, 3, 3, 2, 999999999, (1, 999999937), 0)
        column = tuple([random_row(source, 3, 999999999, (1, 999999929)) for _ in range(3)])
        for _ in range(4):
            column = come_to(matrix, column)
        for _ in range(4):
            column = self.check(matrix, column)
            self.assertIsNotNone(column)

    def test_far_apart(self):
        two = matrix_of(ARRAYS[2])
        wide = (0, ((1, 1),) + ((0, 1),) * 89999 + ((-1, 1),))
        told = solved(two, (wide, NOTHING))
        self.assertEqual([len(row[1]) for row in told], [90000, 90000])
        self.assertIs(shows_solved(two, (wide, NOTHING), told), True)
        self.assertIsNone(solved(two, ((0, wide[1][:-1] + ((1, 1),)), NOTHING)))


class ShowsSolvedTest(unittest.TestCase):

    def setUp(self):
        self.three = ((ONE, ONE, ONE), (ONE, later(ONE, 2), later(ONE, 4)))
        self.rows = (whole_row(0, 1, 2), later(ONE, 3), NOTHING)
        self.column = come_to(self.three, self.rows)

    def shows(self, value):
        return shows_solved(self.three, self.column, value)

    def test_told_ones_and_what_differs_by_the_kernel(self):
        self.assertIs(self.shows(self.rows), True)
        self.assertIs(self.shows(solved(self.three, self.column)), True)
        ghost = kernel(self.three)[0]
        for by in (ONE, whole_row(-4, 1, 1, Fraction(2, 3))):
            rows = tuple([sum_of(row, product_of(more, by)) for row, more in zip(self.rows, ghost)])
            self.assertIs(self.shows(rows), True)

    def test_near_ones(self):
        for k in range(3):
            for by in (ONE, whole_row(3, 1, 2), whole_row(0, Fraction(1, 10 ** 9))):
                rows = list(self.rows)
                rows[k] = sum_of(rows[k], by)
                self.assertIs(self.shows(tuple(rows)), False)

    def test_none(self):
        self.assertIs(self.shows(None), False)
        two = ((ONE, ONE), (ONE, later(ONE, 2)))
        self.assertIs(shows_solved(two, (ONE, later(ONE, 1)), None), True)
        self.assertIs(shows_solved(two, (ONE, later(ONE, 1)), (ONE, NOTHING)), False)
        self.assertIs(shows_solved(two, (ONE, later(ONE, 2)), None), False)

    def test_values_that_are_none(self):
        for value in wrong_tuples(self.rows):
            self.assertIs(self.shows(value), False, value)


if __name__ == "__main__":
    unittest.main()
