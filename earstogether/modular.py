"""Lists of numbers as polynomials modulo a number, the lowest power first.

Each list is from 0 on below the modulus, and doesn't end with 0; that of
nothing is empty.
"""

from earstogether.packing import product_of


def inverse_of(number, modulus):
    """What number times it is 1 modulo the modulus; both have no common divisor."""
    low, high = modulus, number % modulus
    before, now = 0, 1
    while high > 1:
        times, rest = divmod(low, high)
        low, high = high, rest
        before, now = now, before - times * now
    return now % modulus


def rests(numbers, modulus):
    """These numbers modulo the modulus, noughts at the end left out."""
    out = [number % modulus for number in numbers]
    while out and out[-1] == 0:
        out.pop()
    return out


def modular_sum(one, other, modulus):
    total = [0] * max(len(one), len(other))
    for numbers in (one, other):
        for at, number in enumerate(numbers):
            total[at] += number
    return rests(total, modulus)


def modular_difference(one, other, modulus):
    return modular_sum(one, [-number for number in other], modulus)


def modular_product(one, other, modulus):
    if len(one) == 0 or len(other) == 0:
        return []
    return rests(product_of(one, other), modulus)


def modular_division(one, by, modulus):
    """(quotient, rest); the last number of by has nothing in common with the modulus."""
    last = len(by) - 1
    top = inverse_of(by[last], modulus)
    rest, quotient = list(one), [0] * max(0, len(one) - last)
    for at in reversed(range(len(quotient))):
        times = rest[at + last] * top % modulus
        quotient[at] = times
        for k, number in enumerate(by, at):
            rest[k] = (rest[k] - times * number) % modulus
    return (rests(quotient, modulus), rests(rest[:last], modulus))


def modular_power(one, many, by, modulus):
    """The rest, by by, of one to this power, from 1 on."""
    _, power = modular_division(one, by, modulus)
    out = [1]
    while many > 0:
        if many & 1:
            _, out = modular_division(modular_product(out, power, modulus), by, modulus)
        _, power = modular_division(modular_product(power, power, modulus), by, modulus)
        many = many >> 1
    return out


def modular_plain(one, modulus):
    """The multiple by a number that ends with 1; one is not nothing."""
    top = inverse_of(one[-1], modulus)
    return [number * top % modulus for number in one]


def modular_common(one, other, prime):
    """The greatest common divisor that ends with 1; one of both is not nothing."""
    while other:
        one, other = other, modular_division(one, other, prime)[1]
    return modular_plain(one, prime)


def cofactors(one, other, prime):
    """(by, by_other): one times by and other times by_other come to 1; both have no common divisor."""
    low, high = one, other
    before, now = [1], []
    while high:
        times, rest = modular_division(low, high, prime)
        low, high = high, rest
        before, now = now, modular_difference(before, modular_product(times, now, prime), prime)
    top = inverse_of(low[0], prime)
    by = [number * top % prime for number in before]
    left = modular_difference([1], modular_product(by, one, prime), prime)
    return (by, modular_division(left, other, prime)[0])
