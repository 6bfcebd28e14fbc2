"""MATRICES of ROWS: products, determinants, steps, and what they come to."""

from earstogether.errors import BadColumn, BadMatrix, NotSquare, Unlike
from earstogether.kinds import are_rows, is_ascending
from earstogether.minors import determinant_of
from earstogether.multiplying import column_of, product_lines
from earstogether.solving import Steps, rows_of
from earstogether.spanning import is_base_as
from earstogether.tables import transposed

MOST = 8


def is_matrix(value):
    if type(value) is not tuple or not 1 <= len(value) <= MOST:
        return False
    if not all([are_rows(line) and 1 <= len(line) <= MOST for line in value]):
        return False
    return all([len(line) == len(value[0]) for line in value])


def check_matrix(value):
    if not is_matrix(value):
        raise BadMatrix(value)


def check_column(matrix, value):
    if not is_for_each(value, matrix):
        raise BadColumn(value)


def is_for_each(value, parts):
    """Whether this is a tuple of ROWS, one for each of these parts."""
    return are_rows(value) and len(value) == len(parts)


def product(one, other):
    """The MATRIX whose columns are what one and the columns of other come to."""
    check_matrix(one)
    check_matrix(other)
    if len(one[0]) != len(other):
        raise Unlike((len(one[0]), len(other)))
    return product_lines(one, other)


def determinant(matrix):
    """The determinant, a ROW."""
    check_matrix(matrix)
    if len(matrix) != len(matrix[0]):
        raise NotSquare((len(matrix), len(matrix[0])))
    return determinant_of(matrix)


def stepped(matrix):
    """(changer, steps): a change that can be taken back, and the steps to which it brings the MATRIX."""
    check_matrix(matrix)
    steps = Steps(matrix)
    columns = [top.column for top in steps.tops] + steps.base
    changer = transposed([rows_of(column) for column in columns])
    return (changer, product_lines(matrix, changer))


def shows_stepped(matrix, value):
    """Whether stepped may tell this value for the MATRIX."""
    check_matrix(matrix)
    if type(value) is not tuple or len(value) != 2:
        return False
    changer, steps = value
    if not is_matrix(changer) or not len(changer) == len(changer[0]) == len(matrix[0]):
        return False
    if not is_matrix(steps) or product_lines(matrix, changer) != steps:
        return False
    return are_steps(steps) and len(determinant_of(changer)[1]) == 1


def are_steps(matrix):
    """Whether the tops of the columns ascend, and those without one stand last."""
    tops = [top_of(column) for column in transposed(matrix)]
    some = [top for top in tops if top < len(matrix)]
    return is_ascending(some) and tops[:len(some)] == some


def top_of(column):
    """The number of the first ROW that isn't nothing; the number of all if there is none."""
    return min([k for k, row in enumerate(column) if row[1]], default=len(column))


def rank(matrix):
    """How many columns of steps have a top."""
    check_matrix(matrix)
    return len(Steps(matrix).tops)


def kernel(matrix):
    """Tuples of ROWS that come to nothing, of which all such are made."""
    check_matrix(matrix)
    return Steps(matrix).base_rows()


def shows_kernel(matrix, value):
    """Whether kernel may tell this value for the MATRIX."""
    check_matrix(matrix)
    if type(value) is not tuple or not all([is_for_each(rows, matrix[0]) for rows in value]):
        return False
    return is_base_as(kernel(matrix), value)


def solved(matrix, column):
    """ROWS with which the MATRIX comes to the COLUMN; None if there are none."""
    check_matrix(matrix)
    check_column(matrix, column)
    return Steps(matrix).solution(column)


def shows_solved(matrix, column, value):
    """Whether solved may tell this value for the MATRIX and the COLUMN."""
    check_matrix(matrix)
    check_column(matrix, column)
    if value is None:
        return not Steps(matrix).reaches(column)
    return is_for_each(value, matrix[0]) and column_of(matrix, value) == column
