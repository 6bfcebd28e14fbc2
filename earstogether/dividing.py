"""What division.py tells of ROWS, for those that are known to be ROWS."""

from math import gcd

from earstogether.kinds import NOTHING
from earstogether.modular import inverse_of
from earstogether.packing import packed, unpacked
from earstogether.wholes import plain_parts, primitive, reduced, row_of_wholes, trimmed

# With fewer bits two numbers often have something in common by chance.
FEWEST_BITS = 8

# Shorter lists are divided at once; of longer ones it is first asked modulo a prime, 2 to the power of 61 less 1.
LONG = 64
PRIME = 2305843009213693951


def row_division(row, by):
    """(quotient, rest) as divided tells them; by is not nothing."""
    if len(row[1]) < len(by[1]):
        return (NOTHING, row)
    (top, bottom), wholes = plain_parts(row)
    (by_top, by_bottom), divisor = plain_parts(by)
    quotient, rest, scale = whole_division(wholes, divisor)
    worths = [reduced(part * top * by_bottom, low * bottom * by_top) for part, low in quotient]
    left = [reduced(part * top, scale * bottom) for part in rest]
    return (trimmed(row[0] - by[0], worths), trimmed(row[0], left))


def whole_division(wholes, by):
    """(quotient, rest, scale): wholes are by times quotient and rest / scale together.

    The quotient is a list of pairs (top, bottom), not in lowest terms; by is
    not longer than wholes. The rest is kept in whole numbers, and made greater
    only so far as the next step needs it; what no step has come to yet is
    left as it was.
    """
    rest, scale, last = list(wholes), 1, len(by) - 1
    lower = lower_numbers(by)
    many = len(wholes) - last
    quotient = [(0, 1)] * many
    for at in reversed(range(many)):
        rest[at] = rest[at] * scale
        top = rest[at + last]
        if top == 0:
            continue
        shared = gcd(top, by[last])
        missing, times = by[last] // shared, top // shared
        if missing != 1:
            scale = scale * missing
            rest[at:at + last] = [number * missing for number in rest[at:at + last]]
        for k, number in lower:
            rest[at + k] -= times * number
        quotient[at] = (times, scale)
    return (quotient, rest[:last], scale)


def goes_into(by, wholes):
    """Whether wholes are by times some list of whole numbers.

    (As by has no common divisor, they are not by times fractions otherwise.)
    """
    return whole_quotient(wholes, by) is not None


def whole_quotient(wholes, by):
    """The list of whole numbers that by times it is wholes; None if there is none."""
    last = len(by) - 1
    if len(wholes) <= last or wholes[0] % by[0] != 0:
        return None
    if len(wholes) > LONG and not may_go_into(by, wholes):
        return None
    rest, quotient = list(wholes), [0] * (len(wholes) - last)
    lower = lower_numbers(by)
    for at in reversed(range(len(quotient))):
        times, left = divmod(rest[at + last], by[last])
        if left != 0:
            return None
        if times != 0:
            quotient[at] = times
            for k, number in lower:
                rest[at + k] -= times * number
    return quotient if not any(rest[:last]) else None


def lower_numbers(by):
    """The numbers of a list that are not 0, but for its last one, with their places."""
    return [(k, number) for k, number in enumerate(by[:-1]) if number != 0]


def may_go_into(by, wholes):
    """Whether a division leaves no rest modulo a prime: then it may leave none at all.

    Where it leaves one, this is told without the great numbers to which rests
    of long lists can grow.
    """
    last = len(by) - 1
    if by[last] % PRIME == 0:
        return True
    by_top = inverse_of(by[last], PRIME)
    lower = [(k, number * by_top % PRIME) for k, number in lower_numbers(by)]
    rest = [number % PRIME for number in wholes]
    for at in reversed(range(len(wholes) - last)):
        times = rest[at + last] % PRIME
        if times != 0:
            for k, number in lower:
                rest[at + k] -= times * number
    return not any([number % PRIME for number in rest[:last]])


def row_is_multiple(row, by):
    if len(row[1]) == 0 or len(by[1]) == 0:
        return len(row[1]) == 0
    return goes_into(plain_parts(by)[1], plain_parts(row)[1])


def plain_row(row):
    """(FRACTION, shift, ROW) as plain tells them; row is not nothing."""
    fraction, wholes = plain_parts(row)
    return (fraction, row[0], row_of_wholes(0, wholes))


def common_row(rows):
    """The ROW in plain form of which all are multiples, the greatest one; nothing if all are nothing."""
    lists = [plain_parts(row)[1] for row in rows if row[1]]
    if len(lists) == 0:
        return NOTHING
    found = min(lists, key=len)
    for wholes in lists:
        if not goes_into(found, wholes):
            found = whole_common(found, wholes)
    return row_of_wholes(0, found)


def whole_common(one, other):
    """The greatest common divisor of two lists in plain form, in plain form.

    Read as polynomials, both are asked at x, a power of 2, and what both
    numbers have in common is read as a polynomial again: as that with the
    content k, x / 2 at most, and the plain form h. If h goes into both, the
    greatest common divisor is h times some c, and c at x goes into k. But x is
    so far beyond all roots of one (or of other) that c at x would be above
    x / 2, were it not 1. If h doesn't go into both, x was too small: what two
    numbers have in common by chance doesn't grow with x without end.
    """
    bits = max(FEWEST_BITS, min(root_bits(one), root_bits(other)) + 1)
    while True:
        value = gcd(packed(one, bits), packed(other, bits))
        found = read_at(value, bits)
        if found[0] != 0 and goes_into(found, one) and goes_into(found, other):
            return found
        bits = bits * 2


def root_bits(wholes):
    """So many bits that 2 to their power is above the size of each root.

    (If the number k below the last one is at most m ** k times the last one,
    for all k, a root is less than m + m: all others together would be too small.)
    """
    last = wholes[-1].bit_length()
    return max([(number.bit_length() - last + k) // k for k, number in enumerate(wholes[-2::-1], 1) if number != 0]) + 1


def read_at(value, bits):
    """The list that comes to value, above 0, at 2 to the power of bits, without its common divisor."""
    numbers = unpacked(value, bits, value.bit_length() // bits + 2)
    while numbers[-1] == 0:
        numbers.pop()
    return primitive(numbers)[1]
