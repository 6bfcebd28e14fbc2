"""What factors.py tells of ROWS, for those that are known to be narrow enough."""

from itertools import combinations

from earstogether.dividing import common_row, goes_into, whole_quotient
from earstogether.lifting import lifted
from earstogether.modular import rests
from earstogether.packing import product_of
from earstogether.splitting import has_no_square, split
from earstogether.wholes import plain_parts, primitive, row_of_wholes


def row_factors(row):
    """(FRACTION, shift, found) as factors tells them; row is not nothing."""
    fraction, wholes = plain_parts(row)
    parts = [(part, how_often(part, wholes)) for part in prime_parts(without_squares(wholes))]
    parts = sorted(parts, key=lambda pair: (len(pair[0]), pair[0]))
    return (fraction, row[0], tuple([(row_of_wholes(0, part), many) for part, many in parts]))


def without_squares(wholes):
    """The list into which just the same primes go, but each of them once."""
    slope = row_of_wholes(0, [k * number for k, number in enumerate(wholes)])
    shared = [top for top, _ in common_row((row_of_wholes(0, wholes), slope))[1]]
    return whole_quotient(wholes, shared)


def how_often(part, wholes):
    many = 0
    while wholes is not None:
        many += 1
        wholes = whole_quotient(wholes, part)
    return many - 1


def prime_parts(wholes):
    """The prime lists in plain form of which wholes, in plain form, is the product, none of them twice."""
    if len(wholes) == 1:
        return []
    prime = fitting_prime(wholes)
    parts = split(wholes, prime)
    if len(parts) == 1:
        return [wholes]
    bound = sum([abs(number) for number in wholes]) << len(wholes)
    modulus, parts = lifted(wholes, parts, prime, 2 * bound + 1)
    return put_together(wholes, parts, modulus)


def fitting_prime(wholes):
    prime = 3
    while not (is_small_prime(prime) and has_no_square(wholes, prime)):
        prime += 2
    return prime


def is_small_prime(number):
    """Whether an odd number from 3 on is prime."""
    by = 3
    while by * by <= number:
        if number % by == 0:
            return False
        by += 2
    return True


def put_together(wholes, parts, modulus):
    """The prime lists in plain form, of factors modulo the modulus, which is beyond twice their numbers.

    Lots of them are tried, few ones first: so what goes into wholes is prime.
    """
    found, size = [], 1
    while 2 * size <= len(parts):
        lot = fitting_lot(wholes, parts, size, modulus)
        if lot is None:
            size += 1
        else:
            part = candidate(wholes, [parts[k] for k in lot], modulus)
            found.append(part)
            wholes = whole_quotient(wholes, part)
            parts = [left for k, left in enumerate(parts) if k not in lot]
    return [*found, wholes]


def fitting_lot(wholes, parts, size, modulus):
    numbers = list(range(len(parts)))
    for lot in combinations(numbers, size):
        # Its first number is not 0: with all parts it comes to that of wholes, which is not 0 modulo the modulus.
        if goes_into(candidate(wholes, [parts[k] for k in lot], modulus), wholes):
            return lot
    return None


def candidate(wholes, parts, modulus):
    """What the product of these parts is, if there are whole numbers behind it that go into wholes."""
    out = wholes[-1:]
    for part in parts:
        out = rests(product_of(out, part), modulus)
    out = [number - modulus if 2 * number > modulus else number for number in out]
    return primitive(out)[1]
