"""ROWS divided with a rest, and what they have in common."""

from earstogether.dividing import common_row, plain_row, row_division, row_is_multiple
from earstogether.errors import BadRows, ByNothing
from earstogether.kinds import are_rows, check_row

MOST_ROWS = 40


def divided(row, by):
    """(quotient, rest): row is by times quotient and rest together, the rest narrower than by."""
    check_row(row)
    check_row(by)
    check_something(by)
    return row_division(row, by)


def check_something(row):
    if len(row[1]) == 0:
        raise ByNothing(None)


def is_multiple(row, by):
    """Whether row is by times some ROW."""
    check_row(row)
    check_row(by)
    return row_is_multiple(row, by)


def plain(row):
    """(FRACTION, shift, ROW): row is the ROW, in plain form, times the FRACTION, so many moments later."""
    check_row(row)
    check_something(row)
    return plain_row(row)


def common(rows):
    """The greatest common divisor in plain form; nothing if all are nothing."""
    if not are_rows(rows) or len(rows) > MOST_ROWS:
        raise BadRows(rows)
    return common_row(rows)
