"""ROWS taken apart into those that can't be taken apart."""

from earstogether.division import check_something
from earstogether.errors import TooWide
from earstogether.factoring import row_factors
from earstogether.kinds import check_row

WIDEST = 8


def factors(row):
    """(FRACTION, shift, found): row is the product of the found primes, times the FRACTION, so many moments later."""
    check_row(row)
    check_something(row)
    check_narrow(row)
    return row_factors(row)


def check_narrow(row):
    if len(row[1]) - 1 > WIDEST:
        raise TooWide(len(row[1]) - 1)


def is_prime(row):
    """Whether the spread is 1 or more, and the row no product of two such."""
    check_row(row)
    check_narrow(row)
    if len(row[1]) < 2:
        return False
    _, _, found = row_factors(row)
    return len(found) == 1 and found[0][1] == 1
