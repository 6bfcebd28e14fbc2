"""Columns as sums of those of a matrix, and choirs that show that there is no such sum."""

from earstogether.dividing import common_row, row_division, whole_quotient
from earstogether.kinds import NOTHING
from earstogether.reckoning import contrary, row_product, row_sum, scaled_row
from earstogether.stepping import steps_of
from earstogether.wholerows import coming_to, row_over, times_number, whole_product, whole_rows, whole_sum
from earstogether.wholes import primitive

ONE = (0, ((1, 1),))


class Top:
    """A column of steps: its line, the sum of columns that it is, and what that comes to at each line."""

    def __init__(self, number, column, lines):
        self.number = number
        self.column = column
        self.gains = [coming_to(line, column) for line in lines]
        first, numbers = self.gains[number]
        self.content, plain = primitive(numbers)
        self.divisor = (first, plain)


class Attempt:
    """How far a column was taken apart: bottom times it is what is left, and what the shares come to."""

    def __init__(self, left, bottom, many):
        self.left = left
        self.bottom = bottom
        self.shares = [(0, [])] * many

    def take_off(self, top):
        """Takes so much of a top from what is left that nothing is at its line; False if a rest would be there."""
        first, numbers = self.left[top.number]
        if len(numbers) == 0:
            return True
        quotient = whole_quotient(numbers, top.divisor[1])
        if quotient is None:
            return False
        more = (first - top.divisor[0], quotient)
        less = (more[0], [-number for number in quotient])
        self.bottom = self.bottom * top.content
        self.left = sums_with(self.left, top.content, top.gains, less)
        self.shares = sums_with(self.shares, top.content, top.column, more)
        return True


def sums_with(wholes, number, others, by):
    """Each whole row times the number, and the other one there times by."""
    return [
        whole_sum([times_number(whole, number), whole_product(other, by)]) for whole, other in zip(wholes, others)
    ]


class Steps:
    """A MATRIX brought to steps: tops, and the base of what comes to nothing.

    found is what steps_of tells of its lines, where this is known already.
    """

    def __init__(self, matrix, found=None):
        told = [whole_rows(line) for line in matrix]
        self.many = len(matrix[0])
        self.bottoms = [bottom for bottom, _ in told]
        lines = [wholes for _, wholes in told]
        tops, self.base = steps_of(lines, self.many) if found is None else found
        self.tops = [Top(number, column, lines) for number, column in tops]

    def base_rows(self):
        return tuple([rows_of(column) for column in self.base])

    def attempt(self, column):
        """(number, attempt): the first line at which column can't be taken apart, None if there is none."""
        bottom, left = whole_rows([scaled_row(row, (low, 1)) for row, low in zip(column, self.bottoms)])
        attempt = Attempt(left, bottom, self.many)
        waiting = list(self.tops)
        for number in range(len(column)):
            if waiting and waiting[0].number == number:
                if not attempt.take_off(waiting.pop(0)):
                    return (number, attempt)
            elif attempt.left[number][1]:
                return (number, attempt)
        return (None, attempt)

    def solution(self, column):
        """The ROWS with which the MATRIX comes to column; None if there are none."""
        number, attempt = self.attempt(column)
        if number is not None:
            return None
        return tuple([row_over(whole, attempt.bottom) for whole in attempt.shares])

    def reaches(self, column):
        return self.attempt(column)[0] is None

    def reason(self, column):
        """(choir, divisor) that show that the MATRIX doesn't come to column; None if it does."""
        number, _ = self.attempt(column)
        if number is None:
            return None
        choir, divisor = self.choir_at(number)
        return (tuple([scaled_row(row, (low, 1)) for row, low in zip(choir, self.bottoms)]), divisor)

    def choir_at(self, number):
        """(choir, divisor): a choir of this line and of those of the tops ahead of it.

        Its outcome for these tops is nothing; for the top at this line, if
        there is one, it is the divisor: so for all columns of the MATRIX it is
        a multiple of that.
        """
        choir = [NOTHING] * len(self.bottoms)
        choir[number] = ONE
        for top in reversed([top for top in self.tops if top.number < number]):
            choir = silenced(choir, top)
        divisors = [row_over(top.gains[number], 1) for top in self.tops if top.number == number]
        return (choir, row_product(choir[number], divisors[0]) if divisors else NOTHING)


def silenced(choir, top):
    """The choir, times some ROW, and at the top's line such a ROW that the top comes to nothing."""
    gains = [row_over(gain, 1) for gain in top.gains]
    total = NOTHING
    for row, gain in zip(choir, gains):
        total = row_sum(total, row_product(row, gain))
    if total == NOTHING:
        return choir
    shared = common_row((total, gains[top.number]))
    by, _ = row_division(gains[top.number], shared)
    changed = [row_product(row, by) for row in choir]
    changed[top.number] = contrary(row_division(total, shared)[0])
    return changed


def rows_of(column):
    return tuple([row_over(whole, 1) for whole in column])
