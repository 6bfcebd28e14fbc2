"""What the tests of matrices need."""

from tests.support import columns_of, difference_of, later, product_of, random_row, random_something, sum_of, whole_row

NOTHING = (0, ())
ONE = (0, ((1, 1),))


def random_matrix(source, lines, columns, most=3, size=3, bottoms=(1,), empty=0.2):
    return tuple([
        tuple([NOTHING if source.random() < empty else random_row(source, most, size, bottoms) for _ in range(columns)])
        for _ in range(lines)
    ])


def units(many):
    return tuple([tuple([ONE if k == at else NOTHING for k in range(many)]) for at in range(many)])


def slow_product(one, other):
    columns = columns_of(other)
    out = []
    for line in one:
        out.append(tuple([sum_all([product_of(a, b) for a, b in zip(line, column)]) for column in columns]))
    return tuple(out)


def sum_all(rows):
    total = NOTHING
    for row in rows:
        total = sum_of(total, row)
    return total


def slow_determinant(matrix):
    """By the first line."""
    if len(matrix) == 0:
        return ONE
    total = NOTHING
    for k, row in enumerate(matrix[0]):
        part = product_of(row, slow_determinant(tuple([line[:k] + line[k + 1:] for line in matrix[1:]])))
        total = sum_of(total, part) if k % 2 == 0 else difference_of(total, part)
    return total


def changed(columns, source, times=4):
    """The columns after some changes that can be taken back, and the changer that does them."""
    many = len(columns)
    columns, changer = [list(column) for column in columns], [list(line) for line in units(many)]
    for _ in range(times * many):
        one, other = source.randrange(many), source.randrange(many)
        by = random_something(source, 2, 2, (1, 1, 2))
        for lot in (columns, changer):
            if one == other:
                lot[one] = [later(product_of(row, whole_row(0, -2)), 1) for row in lot[one]]
            else:
                lot[one] = [sum_of(row, product_of(by, more)) for row, more in zip(lot[one], lot[other])]
    return columns_of(columns), columns_of(changer)


def top_of(column):
    """The number of the first ROW that isn't nothing, or that of all."""
    return next((k for k, row in enumerate(column) if row != NOTHING), len(column))
