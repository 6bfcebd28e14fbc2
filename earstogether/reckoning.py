"""What rows.py tells of ROWS, for those that are known to be ROWS."""

from earstogether.kinds import NOTHING
from earstogether.packing import product_of
from earstogether.wholes import in_wholes, reduced, trimmed


def fraction_sum(one, other):
    if one[1] == 1 and other[1] == 1:
        return (one[0] + other[0], 1)
    return reduced(one[0] * other[1] + other[0] * one[1], one[1] * other[1])


def fraction_product(one, other):
    return reduced(one[0] * other[0], one[1] * other[1])


def row_sum(one, other):
    if len(one[1]) == 0:
        return other
    if len(other[1]) == 0:
        return one
    first = min(one[0], other[0])
    end = max(one[0] + len(one[1]), other[0] + len(other[1]))
    worths = [(0, 1)] * (end - first)
    start = one[0] - first
    worths[start:start + len(one[1])] = one[1]
    for at, worth in enumerate(other[1], other[0] - first):
        worths[at] = fraction_sum(worths[at], worth)
    return trimmed(first, worths)


def contrary(row):
    return (row[0], tuple([(-top, bottom) for top, bottom in row[1]]))


def row_product(one, other):
    if len(one[1]) == 0 or len(other[1]) == 0:
        return NOTHING
    bottom, wholes = in_wholes(one[1])
    low, by = in_wholes(other[1])
    worths = [reduced(whole, bottom * low) for whole in product_of(wholes, by)]
    return (one[0] + other[0], tuple(worths))


def scaled_row(row, by):
    if by[0] == 0:
        return NOTHING
    return (row[0], tuple([fraction_product(worth, by) for worth in row[1]]))


def shifted_row(row, by):
    if len(row[1]) == 0:
        return NOTHING
    return (row[0] + by, row[1])


def turned_row(row):
    if len(row[1]) == 0:
        return NOTHING
    return (1 - row[0] - len(row[1]), row[1][::-1])


def worth_at(row, moment):
    at = moment - row[0]
    return row[1][at] if 0 <= at < len(row[1]) else (0, 1)
