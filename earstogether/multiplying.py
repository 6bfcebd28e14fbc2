"""Products of MATRICES, for those that are known to go together."""

from earstogether.tables import transposed
from earstogether.wholerows import coming_to, row_over, whole_rows


def product_lines(one, other):
    """The MATRIX whose columns are what one and the columns of other come to."""
    columns = [whole_rows(column) for column in transposed(other)]
    told = []
    for line in one:
        bottom, wholes = whole_rows(line)
        told.append(tuple([row_over(coming_to(wholes, column), bottom * low) for low, column in columns]))
    return tuple(told)


def column_of(matrix, rows):
    """What a MATRIX and a tuple of ROWS, one for each of its columns, come to."""
    return tuple([line[0] for line in product_lines(matrix, tuple([(row,) for row in rows]))])
