"""ROWS as signs to look at."""

from earstogether.errors import BadMoment, BadNumber, BadRows, BadStep
from earstogether.kinds import are_rows, check_row, is_fraction, is_integer
from earstogether.reckoning import worth_at

MOST_LINES = 12
MOST_MOMENTS = 100
LONGEST_BAR = 50


def check_moments(first, many):
    if not is_integer(first):
        raise BadMoment(first)
    if not is_integer(many) or not 1 <= many <= MOST_MOMENTS:
        raise BadNumber(many)


def signs(rows, first, many):
    """A line for each ROW, in it a sign for each of so many moments from first on."""
    if not are_rows(rows) or not 1 <= len(rows) <= MOST_LINES:
        raise BadRows(rows)
    check_moments(first, many)
    return "\n".join(["".join([sign_of(worth_at(row, first + k)) for k in range(many)]) for row in rows])


def sign_of(worth):
    if worth[0] == 0:
        return "."
    return "+" if worth[0] > 0 else "-"


def bars(row, first, many, step):
    """A line for each of so many moments from first on, in it a sign for each whole step of the worth there."""
    check_row(row)
    check_moments(first, many)
    if not is_fraction(step) or step[0] <= 0:
        raise BadStep(step)
    return "\n".join([bar_of(worth_at(row, first + k), step) for k in range(many)])


def bar_of(worth, step):
    steps = abs(worth[0]) * step[1] // (worth[1] * step[0])
    return ("-" if worth[0] < 0 else "") + "#" * min(steps, LONGEST_BAR)
