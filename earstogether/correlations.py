"""Correlations, and the ROWS that have them: up to factors turned about."""

from math import isqrt

from earstogether.dividing import common_row, row_division, row_is_multiple
from earstogether.factoring import row_factors
from earstogether.factors import check_narrow
from earstogether.kinds import NOTHING, are_rows, check_row
from earstogether.packing import product_of
from earstogether.reckoning import contrary, row_product, scaled_row, shifted_row, turned_row, worth_at
from earstogether.wholes import reduced, row_of_wholes


def row_correlation(one, other):
    return row_product(one, turned_row(other))


def row_form(row):
    """The row but for its sign and for when it comes."""
    if row == NOTHING:
        return NOTHING
    early = shifted_row(row, -row[0])
    return early if early[1][0][0] > 0 else contrary(early)


def rows_alike(one, other):
    return row_correlation(one, one) == row_correlation(other, other)


def check_both(one, other):
    check_row(one)
    check_row(other)


def correlation(one, other):
    """At each moment d the sum of what one has at m + d times what other has at m, for all m."""
    check_both(one, other)
    return row_correlation(one, other)


def are_alike(one, other):
    """Whether both have the same correlation with themselves."""
    check_both(one, other)
    return rows_alike(one, other)


def shared(one, other):
    """(u, v): one is u times v, other u times v turned, each but for sign and shift; None if they are not alike.

    With u what both have in common, the rest of one and that of other have
    nothing in common, and yet the same correlation: so one is the other turned.
    """
    check_both(one, other)
    if not rows_alike(one, other):
        return None
    if one == NOTHING:
        return (NOTHING, NOTHING)
    u = common_row((one, other))
    return (u, row_division(one, u)[0])


def shows_shared(one, other, value):
    """Whether shared may tell this value."""
    check_both(one, other)
    if value is None:
        return not rows_alike(one, other)
    if not are_rows(value) or len(value) != 2:
        return False
    u, v = value
    made = (row_product(u, v), row_product(u, turned_row(v)))
    return row_form(made[0]) == row_form(one) and row_form(made[1]) == row_form(other)


def form_of(row):
    """The row in form: first moment 0, first worth above 0."""
    check_row(row)
    return row_form(row)


def all_alike(row):
    """All ROWS in form that are alike to it, ascending."""
    check_row(row)
    check_narrow(row)
    return alike_rows(row)


def alike_rows(row):
    """What all_alike tells: the row's factors, each copy by itself, turned or not."""
    if row == NOTHING:
        return (NOTHING,)
    (top, bottom), _, found = row_factors(row)
    lists = [[1]]
    for prime, many in found:
        powers = turned_powers(numbers_of(prime), many)
        lists = [product_of(numbers, power) for numbers in lists for power in powers]
    # All are the same number times these lists: so they are sorted as these are.
    told = sorted(set([tuple(numbers) for numbers in lists]))
    return tuple([scaled_row(row_of_wholes(0, numbers), reduced(abs(top), bottom)) for numbers in told])


def numbers_of(prime):
    return [top for top, _ in prime[1]]


def turned_numbers(numbers):
    """The list turned about, its first number above 0."""
    out = numbers[::-1]
    return out if out[0] > 0 else [-number for number in out]


def turned_powers(numbers, many):
    """The products of so many copies of a list: with all copies as they are, with one of them turned, and so on."""
    return [
        product_of(power_of(numbers, many - k), power_of(turned_numbers(numbers), k)) for k in range(many + 1)
    ]


def power_of(numbers, many):
    out = [1]
    for _ in range(many):
        out = product_of(out, numbers)
    return out


def rows_with(row):
    """All ROWS in form whose correlation with themselves is this row, ascending."""
    check_row(row)
    check_narrow(row)
    return roots_of(row)


def roots_of(row):
    root = root_of(row)
    return () if root is None else alike_rows(root)


def root_of(row):
    """A ROW whose correlation with itself is this row; None if there is none."""
    if row == NOTHING:
        return NOTHING
    if row != turned_row(row):
        return None
    numbers = half_of(row_factors(row)[2])
    if numbers is None:
        return None
    half = row_of_wholes(0, numbers)
    (top, bottom), (by, low) = worth_at(row, 0), worth_at(row_correlation(half, half), 0)
    scale = square_root(reduced(top * low, bottom * by))
    return None if scale is None else scaled_row(half, scale)


def half_of(found):
    """The product of half of these factors, such that the other ones are the same turned; None if there is none."""
    out = [1]
    for prime, many in found:
        numbers = numbers_of(prime)
        other = turned_numbers(numbers)
        if numbers == other and many & 1:
            return None
        if numbers == other:
            out = product_of(out, power_of(numbers, many // 2))
        elif numbers < other:
            out = product_of(out, power_of(numbers, many))
    return out


def square_root(fraction):
    """The FRACTION above 0 whose square it is; None if there is none."""
    top, bottom = fraction
    if top < 0:
        return None
    root = (isqrt(top), isqrt(bottom))
    return root if (root[0] * root[0], root[1] * root[1]) == fraction else None


def pairs_with(first, cross, second):
    """All pairs of ROWS with these correlations, but for the sign and the shift of both together."""
    for row in (first, cross, second):
        check_row(row)
    check_narrow(first)
    check_narrow(second)
    seconds = roots_of(second)
    if first == NOTHING:
        return tuple([(NOTHING, other) for other in seconds]) if cross == NOTHING else ()
    pairs = [(one, turned_row(row_division(cross, one)[0])) for one in roots_of(first) if row_is_multiple(cross, one)]
    return tuple([(one, other) for one, other in pairs if row_form(other) in seconds])
