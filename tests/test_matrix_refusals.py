"""What matrices.py refuses: sections 2 and 7."""

import unittest

from earstogether.errors import BadColumn, BadMatrix, NotSquare, Unlike
from earstogether.matrices import (
    determinant, kernel, product, rank, shows_kernel, shows_solved, shows_stepped, solved, stepped,
)
from tests.matrix_support import NOTHING, ONE, units
from tests.support import NO_ROWS, Thing, assert_refusals, assert_refused, later, wrong_tuples

TWO = ((ONE, ONE), (ONE, later(ONE, 2)))
WIDE = ((ONE, NOTHING, later(ONE, 1)), (NOTHING, ONE, ONE))

NO_MATRICES = [
    None, True, 0, "", "matrix", (), [], {}, ((),), ((), ()), [TWO], list(TWO), (list(TWO[0]), TWO[1]), TWO[0], (TWO,), ONE, (ONE,),
    NOTHING, ((ONE, ONE), (ONE,)), ((ONE,), (ONE, ONE)), ((ONE, ONE), ()), ((ONE, ONE), None), ((ONE, ONE), ONE), {0: TWO[0]},
    ((ONE,) * 9,), ((ONE,),) * 9, ((ONE,) * 9,) * 9, ((ONE,) * 8,) * 9, ((ONE,) * 9,) * 8, ((ONE, [ONE]),), Thing(),
]
NO_MATRICES += [((wrong,),) for wrong in NO_ROWS] + [((ONE, ONE), (ONE, wrong)) for wrong in NO_ROWS]
NO_MATRICES += [((ONE, wrong, NOTHING), (ONE, ONE, ONE)) for wrong in NO_ROWS]

VALUES = (None, True, "", (), (units(2), TWO), [], Thing())


class MatrixTest(unittest.TestCase):

    def test_to_the_bounds(self):
        for lines, columns in ((1, 1), (1, 8), (8, 1), (8, 8)):
            self.assertEqual(rank(((ONE,) * columns,) * lines), 1)

    def test_one_matrix(self):
        for look in (determinant, stepped, rank, kernel):
            assert_refusals(self, look, {"matrix": TWO}, {"matrix": (BadMatrix, NO_MATRICES)})

    def test_shows(self):
        for look in (shows_stepped, shows_kernel):
            for value in VALUES:
                assert_refusals(self, look, {"matrix": TWO, "value": value}, {"matrix": (BadMatrix, NO_MATRICES)})

    def test_product(self):
        wrong = {"one": (BadMatrix, NO_MATRICES), "other": (BadMatrix, NO_MATRICES)}
        assert_refusals(self, product, {"one": TWO, "other": WIDE}, wrong)

    def test_bad_ahead_of_unlike(self):
        for value in NO_MATRICES:
            assert_refused(self, BadMatrix, value, product, WIDE, value)
            assert_refused(self, BadMatrix, value, product, value, WIDE)
        with self.assertRaises(Unlike) as caught:
            product(WIDE, WIDE)
        self.assertEqual(caught.exception.value, (3, 2))

    def test_bad_ahead_of_not_square(self):
        value = ((ONE, ONE), (ONE,))
        assert_refused(self, BadMatrix, value, determinant, value)
        with self.assertRaises(NotSquare) as caught:
            determinant(WIDE)
        self.assertEqual(caught.exception.value, (2, 3))


class ColumnTest(unittest.TestCase):

    def test_solved(self):
        column = (later(ONE, 3), ONE)
        wrong = {"matrix": (BadMatrix, NO_MATRICES), "column": (BadColumn, wrong_tuples(column))}
        assert_refusals(self, solved, {"matrix": WIDE, "column": column}, wrong)
        for value in (*VALUES, column, column + (ONE,)):
            assert_refusals(self, shows_solved, {"matrix": WIDE, "column": column, "value": value}, wrong)

    def test_a_column_has_a_row_for_each_line(self):
        for matrix, many in ((WIDE, 2), (((ONE,),) * 5, 5), ((TWO[0],), 1)):
            for other in range(9):
                column = (NOTHING,) * other
                if other != many:
                    assert_refused(self, BadColumn, column, solved, matrix, column)
                    assert_refused(self, BadColumn, column, shows_solved, value=None, column=column, matrix=matrix)
                else:
                    self.assertIsNotNone(solved(column=column, matrix=matrix))


if __name__ == "__main__":
    unittest.main()
