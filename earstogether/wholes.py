"""ROWS as lists of whole numbers, over one bottom."""

from math import gcd, lcm

from earstogether.kinds import NOTHING


def reduced(top, bottom):
    """The FRACTION top / bottom; bottom is not 0."""
    if bottom == 1:
        return (top, 1)
    shared = gcd(top, bottom)
    if bottom < 0:
        shared = -shared
    return (top // shared, bottom // shared)


def trimmed(first, worths):
    """The ROW with these FRACTIONS from first on, noughts at both ends left out."""
    low, high = 0, len(worths)
    while low < high and worths[low][0] == 0:
        low += 1
    while high > low and worths[high - 1][0] == 0:
        high -= 1
    if low == high:
        return NOTHING
    return (first + low, tuple(worths[low:high]))


def in_wholes(worths):
    """(bottom, wholes): each worth is its whole number over this bottom, the least one that does."""
    bottom = 1
    for worth in worths:
        bottom = lcm(bottom, worth[1])
    return (bottom, [top * (bottom // low) for top, low in worths])


def content_of(wholes):
    content = 0
    for whole in wholes:
        content = gcd(content, whole)
        if content == 1:
            return 1
    return content


def primitive(wholes):
    """(content, plain): content times plain, which has no common divisor, its first number above 0."""
    content = content_of(wholes)
    if wholes[0] < 0:
        content = -content
    if content == 1:
        return (1, wholes)
    return (content, [whole // content for whole in wholes])


def plain_parts(row):
    """(FRACTION, wholes): the worths of a ROW that is not nothing are it times these, in plain form."""
    bottom, wholes = in_wholes(row[1])
    content, plain = primitive(wholes)
    return ((content, bottom), plain)


def row_of_wholes(first, wholes):
    return trimmed(first, [(whole, 1) for whole in wholes])
