"""What is an integer, a FRACTION, a ROW, an ascending sequence."""

from math import gcd

from earstogether.errors import BadRow

NOTHING = (0, ())


def is_integer(value):
    return type(value) is int


def is_fraction(value):
    if type(value) is not tuple or len(value) != 2:
        return False
    top, bottom = value
    return is_integer(top) and is_integer(bottom) and bottom > 0 and gcd(top, bottom) == 1


def are_fractions(value):
    return type(value) is tuple and all([is_fraction(part) for part in value])


def is_row(value):
    if type(value) is not tuple or len(value) != 2:
        return False
    first, worths = value
    if not is_integer(first) or not are_fractions(worths):
        return False
    if len(worths) == 0:
        return first == 0
    return worths[0][0] != 0 and worths[-1][0] != 0


def are_rows(value):
    return type(value) is tuple and all([is_row(part) for part in value])


def check_row(value):
    if not is_row(value):
        raise BadRow(value)


def is_ascending(values):
    """Whether each of these strings, or of these integers, is above the one ahead of it."""
    return all([values[k - 1] < values[k] for k in range(1, len(values))])
