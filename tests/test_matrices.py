"""Matrices: products, determinants and steps, as section 7 tells of right values."""

import random
import unittest
from fractions import Fraction

from earstogether.arrays import matrix as matrix_of
from earstogether.errors import NotSquare, Unlike
from earstogether.matrices import determinant, product, rank, shows_stepped, stepped
from tests.array_support import ARRAYS, random_array
from tests.matrix_support import (
    NOTHING, ONE, changed, random_matrix, slow_determinant, slow_product, top_of, units,
)
from tests.support import (
    PRIME, Thing, columns_of, determinant_at, is_in_form, later, product_of, rank_at, whole_row, wrong_tuples,
)

POINTS = (3, 987654321, 123456789123)


def spread(row):
    return len(row[1]) - 1


def great_matrices():
    """MATRICES of all sizes, with columns that are nothing, alike but for a shift, or made of others."""
    source = random.Random(41)
    out = []
    for lines in range(1, 9):
        for columns in range(1, 9):
            out.append(random_matrix(source, lines, columns))
            told = [list(column) for column in columns_of(random_matrix(source, lines, columns, 2, 2, (1, 2, 3), 0.4))]
            kind = source.randrange(4)
            if kind == 0:
                told[source.randrange(columns)] = [NOTHING] * lines
            elif kind == 1:
                told[-1] = [later(row, 3) for row in told[0]]
            elif kind == 2:
                told[0] = [product_of(row, whole_row(1, 2, Fraction(1, 3))) for row in told[-1]]
            elif columns > 2:
                by = whole_row(0, 1, -1)
                told[1] = [product_of(one, by) for one in told[0]]
                told[2] = list(told[1])
            out.append(columns_of(told))
    out.append(((NOTHING,),))
    out.append(((NOTHING,) * 8,) * 8)
    out.append(units(8))
    return out


class ProductTest(unittest.TestCase):

    def test_ordinary(self):
        one = ((ONE, whole_row(1, 2)), (NOTHING, whole_row(0, 1, 1)))
        other = ((whole_row(0, 3), ONE, NOTHING), (whole_row(-1, 1), ONE, NOTHING))
        told = ((whole_row(0, 5), whole_row(0, 1, 2), NOTHING), (whole_row(-1, 1, 1), whole_row(0, 1, 1), NOTHING))
        self.assertEqual(product(one, other), told)
        self.assertEqual(product(other=other, one=one), told)

    def test_all_sizes(self):
        source = random.Random(42)
        for lines in (1, 2, 3, 8):
            for middle in (1, 2, 5, 8):
                for columns in (1, 3, 8):
                    one = random_matrix(source, lines, middle, 3, 5, (1, 2, 3))
                    other = random_matrix(source, middle, columns, 3, 5, (1, 1, 5))
                    told = product(one, other)
                    self.assertEqual(told, slow_product(one, other))
                    self.assertEqual({type(line) for line in (told, *told)}, {tuple})
                    self.assertTrue(all([is_in_form(row) for line in told for row in line]))

    def test_units(self):
        source = random.Random(43)
        one = random_matrix(source, 3, 5)
        self.assertEqual([product(one, units(5)), product(units(3), one)], [one, one])

    def test_unlike(self):
        source = random.Random(44)
        for lines, columns, others in ((1, 2, 1), (2, 1, 2), (3, 3, 2), (8, 8, 7), (2, 5, 8), (4, 3, 4)):
            one, other = random_matrix(source, lines, columns), random_matrix(source, others, 3)
            for look in ((lambda: product(one, other)), (lambda: product(other=other, one=one))):
                with self.assertRaises(Unlike) as caught:
                    look()
                self.assertEqual(repr(caught.exception.value), repr((columns, others)))


class DeterminantTest(unittest.TestCase):

    def test_one_line(self):
        for row in (NOTHING, ONE, whole_row(-4, 1, 0, Fraction(-2, 3))):
            self.assertEqual(determinant(((row,),)), row)

    def test_two_lines(self):
        a, b, c, d = whole_row(0, 1, 1), whole_row(2, 3), whole_row(-1, Fraction(1, 2)), whole_row(0, 1, -1)
        self.assertEqual(determinant(((a, b), (c, d))), whole_row(0, 1, Fraction(-3, 2), -1))
        self.assertEqual(determinant(matrix=((b, a), (d, c))), whole_row(0, -1, Fraction(3, 2), 1))

    def test_one_to_four_lines(self):
        source = random.Random(45)
        for many in (1, 2, 3, 4):
            for _ in range(20):
                matrix = random_matrix(source, many, many, 3, 4, (1, 1, 2, 3))
                told = determinant(matrix)
                self.assertEqual(told, slow_determinant(matrix))
                self.assertTrue(is_in_form(told))

    def test_up_to_eight_lines(self):
        source = random.Random(46)
        for many in (5, 6, 7, 8):
            for bottoms in ((1,), (1, 2, 5)):
                matrix = random_matrix(source, many, many, 3, 4, bottoms, 0.1)
                for point in POINTS:
                    self.assertEqual(determinant_at(((determinant(matrix),),), point), determinant_at(matrix, point))

    def test_nothing(self):
        a, b = whole_row(0, 1, 1), whole_row(3, 2)
        for matrix in (
            ((NOTHING,),), ((a, b), (a, b)), ((a, later(a, 2)), (b, later(b, 2))), ((a, NOTHING), (b, NOTHING)),
            ((NOTHING, NOTHING), (a, b)), ((a, b, ONE), (b, a, ONE), (a, b, ONE)), ((NOTHING,) * 8,) * 8,
        ):
            self.assertEqual(determinant(matrix), NOTHING)

    def test_lines_exchanged_and_taken_times(self):
        self.assertEqual(determinant(units(8)), ONE)
        self.assertEqual(determinant(units(8)[::-1]), ONE)
        self.assertEqual(determinant(units(7)[::-1]), whole_row(0, -1))
        self.assertEqual(determinant(units(3)[1:] + units(3)[:1]), ONE)
        self.assertEqual(determinant(units(4)[1:] + units(4)[:1]), whole_row(0, -1))
        lines = [list(line) for line in units(5)]
        lines[2] = [product_of(row, whole_row(0, 2, Fraction(3, 7))) for row in lines[2]]
        self.assertEqual(determinant(tuple([tuple(line) for line in lines])), whole_row(0, 2, Fraction(3, 7)))

    def test_not_square(self):
        for lines, columns in ((1, 2), (2, 1), (3, 2), (8, 7), (1, 8), (8, 1)):
            matrix = ((ONE,) * columns,) * lines
            for look in ((lambda: determinant(matrix)), (lambda: determinant(matrix=matrix))):
                with self.assertRaises(NotSquare) as caught:
                    look()
                self.assertEqual(repr(caught.exception.value), repr((lines, columns)))


class SteppedTest(unittest.TestCase):

    def check(self, matrix):
        changer, steps = told = stepped(matrix)
        self.assertIs(type(told), tuple)
        many = len(matrix[0])
        self.assertEqual({len(line) for line in (changer, *changer)}, {many})
        self.assertEqual([len(line) for line in steps], [many] * len(matrix))
        self.assertEqual({type(line) for line in (changer, steps, *changer, *steps)}, {tuple})
        self.assertTrue(all([is_in_form(row) for line in (*changer, *steps) for row in line]))
        self.check_changer(changer)
        for point in POINTS:
            self.assertEqual([rank_at(matrix, point), rank_at(steps, point)], [rank(matrix)] * 2)
        self.assertEqual(steps, product(matrix, changer))
        self.check_steps(steps, rank(matrix))
        return told

    def check_changer(self, changer):
        """That the determinant is c times x to some power: then it takes products to products, but for c."""
        one, two = POINTS[1:]
        at = [determinant_at(changer, point) for point in (1, one, two, one * two % PRIME)]
        self.assertNotEqual(at[0], 0)
        self.assertEqual(at[1] * at[2] % PRIME, at[0] * at[3] % PRIME)

    def check_steps(self, steps, many):
        tops = [top_of(column) for column in columns_of(steps)]
        self.assertEqual(tops[:many], sorted(set(tops[:many])))
        self.assertNotIn(len(steps), tops[:many])
        self.assertEqual(set(tops[many:]) | {len(steps)}, {len(steps)})

    def test_all_sizes(self):
        for matrix in great_matrices():
            told = self.check(matrix)
            self.assertIs(shows_stepped(matrix, told), True)

    def test_arrays(self):
        source = random.Random(47)
        for array in ARRAYS + tuple([random_array(source, 8, 6, 10, 3) for _ in range(12)]):
            told = self.check(matrix_of(array))
            self.assertIs(shows_stepped(matrix_of(array), told), True)

    def test_small_ones_in_another_way(self):
        source = random.Random(48)
        for _ in range(40):
            matrix = random_matrix(source, source.randint(1, 4), source.randint(1, 3), 3, 3, (1, 2))
            changer, steps = stepped(matrix)
            self.assertEqual(len(slow_determinant(changer)[1]), 1)
            self.assertEqual(slow_product(matrix, changer), steps)

    def test_equal_calls(self):
        for matrix in great_matrices()[:40]:
            self.assertEqual(stepped(matrix), stepped(tuple([tuple(list(line)) for line in matrix])))

    def test_great_numbers(self):
        source = random.Random(49)
        matrix = random_matrix(source, 4, 4, 3, 999999999, (1, 999999937), 0)
        _, steps = self.check(matrix)
        self.assertIs(shows_stepped(steps, stepped(steps)), True)
        self.check(product(steps, matrix))

    def test_far_apart(self):
        far = (later(ONE, -40000), ONE), (later(ONE, 50000), later(ONE, 100))
        self.check(far)
        self.assertEqual([rank(far), spread(determinant(far))], [2, 89900])
        wide = ((0, ((1, 1),) + ((0, 1),) * 59999 + ((-1, 1),)), (0, ((1, 1), (0, 1), (0, 1), (-1, 1)))),
        self.check(wide)


class ShowsSteppedTest(unittest.TestCase):

    def setUp(self):
        self.two = ((ONE, ONE), (ONE, later(ONE, 2)))
        self.changer, self.steps = stepped(self.two)

    def shows(self, changer, steps=None):
        return shows_stepped(self.two, (changer, product(self.two, changer) if steps is None else steps))

    def test_other_right_ones(self):
        minus = whole_row(0, -1)
        changer = ((ONE, minus), (NOTHING, ONE))
        self.assertIs(self.shows(changer), True)
        self.assertIs(self.shows(((whole_row(7, 3), minus), (NOTHING, ONE))), True)
        self.assertIs(self.shows(((ONE, whole_row(2, Fraction(-1, 7))), (NOTHING, whole_row(2, Fraction(1, 7))))), True)
        self.assertIs(self.shows(((ONE, minus), (whole_row(0, 1, 1), whole_row(0, 1)))), False)
        more = whole_row(0, 1, -3, 5)
        self.assertIs(self.shows(((sum_with(ONE, more, minus), minus), (more, ONE))), True)

    def test_all_that_only_changes_the_last_columns(self):
        source = random.Random(50)
        for _ in range(10):
            matrix = random_matrix(source, 2, 5)
            changer, steps = stepped(matrix)
            tops = rank(matrix)
            _, more = changed(units(5 - tops), source)
            whole = units(5)[:tops] + tuple([(NOTHING,) * tops + line for line in more])
            other = product(changer, whole)
            self.assertNotEqual(other, changer)
            self.assertIs(shows_stepped(matrix, (other, steps)), True)

    def test_a_changer_that_cannot_be_taken_back(self):
        wide = whole_row(0, 1, 1)
        self.assertIs(self.shows(((wide, whole_row(0, -1)), (NOTHING, ONE))), False)
        self.assertIs(self.shows(((ONE, product_of(wide, whole_row(0, -1))), (NOTHING, wide))), False)
        self.assertIs(self.shows(((ONE, NOTHING), (NOTHING, NOTHING))), False)
        self.assertIs(self.shows(((NOTHING, NOTHING), (NOTHING, NOTHING))), False)

    def test_no_steps(self):
        self.assertIs(self.shows(units(2)), False)
        self.assertIs(self.shows(((whole_row(0, -1), ONE), (ONE, NOTHING))), False)
        nothing_first = ((ONE, NOTHING), (NOTHING, ONE))
        matrix = ((NOTHING, ONE),)
        self.assertIs(shows_stepped(matrix, (nothing_first, matrix)), False)
        self.assertIs(shows_stepped(matrix, (nothing_first[::-1], ((ONE, NOTHING),))), True)
        low = ((NOTHING, NOTHING), (ONE, ONE), (ONE, NOTHING))
        self.assertIs(shows_stepped(low, (units(2), low)), False)

    def test_steps_of_something_else(self):
        self.assertIs(self.shows(self.changer, self.steps), True)
        self.assertIs(self.shows(self.changer, self.two), False)
        self.assertIs(self.shows(self.changer, self.steps[:1]), False)
        self.assertIs(self.shows(self.changer, self.steps + self.steps[1:]), False)
        for k in (0, 1):
            for row in (ONE, whole_row(0, 5), whole_row(1, -1)):
                steps = list(self.steps)
                steps[k] = (steps[k][0], sum_with(steps[k][1], ONE, row))
                self.assertIs(self.shows(self.changer, tuple(steps)), False)

    def test_changers_of_another_size(self):
        three = ((ONE, later(ONE, 1), NOTHING),)
        changer, steps = stepped(three)
        self.assertIs(shows_stepped(three, (changer, steps)), True)
        for other in (changer[:2], tuple([line[:2] for line in changer]), units(2), units(4), ((ONE,),)):
            self.assertIs(shows_stepped(three, (other, steps)), False)
        self.assertIs(shows_stepped(three, (changer, tuple([line[:2] for line in steps]))), False)

    def test_values_that_are_none(self):
        right = (self.changer, self.steps)
        values = [
            None, True, 0, "", (), [], {}, Thing(), list(right), right[:1], right + right[:1], (right,), right[::-1],
            (None, self.steps), (self.changer, None), ([*self.changer], self.steps), (self.changer, [*self.steps]),
            (tuple([list(line) for line in self.changer]), self.steps), ((), ()), (self.changer, ()), ((), self.steps),
            (((),), self.steps), (self.changer, ((),)), (self.changer, ((), ())), ((self.changer[0], ()), self.steps),
        ]
        for wrong in wrong_tuples(self.changer[0]):
            values.append(((wrong, self.changer[1]), self.steps))
        for wrong in wrong_tuples(self.steps[0]):
            values.append((self.changer, (wrong, self.steps[1])))
        for value in values:
            self.assertIs(shows_stepped(self.two, value), False, value)


def sum_with(row, by, other):
    """The row and by times other together."""
    return slow_product(((row, by),), ((ONE,), (other,)))[0][0]


class RankTest(unittest.TestCase):

    def test_as_a_look_at_points_tells(self):
        for matrix in great_matrices():
            self.assertEqual(rank(matrix), max([rank_at(matrix, point) for point in POINTS]))
            self.assertEqual(rank(columns_of(matrix)), rank(matrix))

    def test_known_ones(self):
        self.assertEqual([rank(units(8)), rank(((NOTHING,) * 8,) * 8), rank(matrix=((NOTHING, ONE),))], [8, 0, 1])
        a, b = whole_row(0, 1, 1), whole_row(0, 1, -1)
        self.assertEqual([rank(((a, b), (later(a, 5), later(b, 5)))), rank(((a, b), (b, a)))], [1, 2])

    def test_it_stays_whatever_can_be_taken_back(self):
        source = random.Random(51)
        for _ in range(10):
            matrix = random_matrix(source, 3, 4, 2, 2, (1,), 0.4)
            told, _ = changed(columns_of(matrix), source, 1)
            self.assertEqual(rank(told), rank(matrix))


if __name__ == "__main__":
    unittest.main()
