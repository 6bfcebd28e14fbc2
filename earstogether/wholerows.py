"""Whole rows: ROWS over a bottom of their own, and sums of their products.

A whole row is a pair (first, numbers): as a ROW, but its worths are whole
numbers, in a list; that of nothing is (0, []).
"""

from math import lcm

from earstogether.packing import product_of
from earstogether.wholes import reduced, trimmed


def whole_rows(rows):
    """(bottom, wholes): each ROW is its whole row over this bottom, the least one that does."""
    bottom = 1
    for row in rows:
        for worth in row[1]:
            bottom = lcm(bottom, worth[1])
    return (bottom, [(row[0], [top * (bottom // low) for top, low in row[1]]) for row in rows])


def row_over(whole, bottom):
    """The ROW that is this whole row over bottom."""
    return trimmed(whole[0], [reduced(number, bottom) for number in whole[1]])


def cut(first, numbers):
    """The whole row with these numbers from first on, noughts at both ends left out."""
    low, high = 0, len(numbers)
    while low < high and numbers[low] == 0:
        low += 1
    while high > low and numbers[high - 1] == 0:
        high -= 1
    if low == high:
        return (0, [])
    return (first + low, numbers[low:high])


def whole_product(one, other):
    if len(one[1]) == 0 or len(other[1]) == 0:
        return (0, [])
    return (one[0] + other[0], product_of(one[1], other[1]))


def whole_sum(parts):
    """The sum of some whole rows."""
    some = [part for part in parts if part[1]]
    if len(some) == 0:
        return (0, [])
    first = min([start for start, _ in some])
    total = [0] * (max([start + len(numbers) for start, numbers in some]) - first)
    for start, numbers in some:
        for at, number in enumerate(numbers, start - first):
            total[at] += number
    return cut(first, total)


def times_number(whole, by):
    """The whole row times a number that is not 0."""
    if by == 1:
        return whole
    return (whole[0], [number * by for number in whole[1]])


def coming_to(line, column):
    """The sum of the products of the whole rows of a line, one by one, with those of a column."""
    return whole_sum([whole_product(one, other) for one, other in zip(line, column)])
