"""Factors modulo a prime made factors modulo a great power of it.

(Hensel's way: what is right modulo m is put right modulo m times m.)
"""

from earstogether.modular import (
    cofactors, modular_difference, modular_division, modular_plain, modular_product, modular_sum, rests,
)


def lifted(wholes, parts, prime, least):
    """(modulus, factors): what these factors of wholes modulo the prime are modulo a power of it, least or more.

    The factors end with 1; no two of them have a common divisor.
    """
    modulus = prime
    while modulus < least:
        modulus = modulus * modulus
    found, left = [], rests(wholes, modulus)
    for at, part in enumerate(parts[:-1]):
        others = rests(wholes[-1:], prime)
        for other in parts[at + 1:]:
            others = modular_product(others, other, prime)
        left, lifted_part = lifted_pair(left, others, part, prime, modulus)
        found.append(lifted_part)
    return (modulus, found + [modular_plain(left, modulus)])


def lifted_pair(wholes, one, other, prime, modulus):
    """one and other such that wholes is their product modulo the modulus; other ends with 1.

    So it is modulo the prime at the beginning.
    """
    by, by_other = cofactors(one, other, prime)
    now = prime
    while now < modulus:
        now = now * now
        wrong = modular_difference(wholes, modular_product(one, other, now), now)
        more, rest = modular_division(modular_product(by, wrong, now), other, now)
        change = modular_sum(modular_product(by_other, wrong, now), modular_product(more, one, now), now)
        one, other = modular_sum(one, change, now), modular_sum(other, rest, now)
        by, by_other = put_right(by, by_other, one, other, now)
    return (one, other)


def put_right(by, by_other, one, other, modulus):
    """What one and other are taken times so that they come to 1, from what did so a step before."""
    told = modular_sum(modular_product(by, one, modulus), modular_product(by_other, other, modulus), modulus)
    wrong = modular_difference(told, [1], modulus)
    more, rest = modular_division(modular_product(by, wrong, modulus), other, modulus)
    change = modular_sum(modular_product(by_other, wrong, modulus), modular_product(more, one, modulus), modulus)
    return (modular_difference(by, rest, modulus), modular_difference(by_other, change, modulus))
