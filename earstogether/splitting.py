"""Lists taken apart modulo a small prime.

(Berlekamp's way: where v to the power of the prime is v, modulo f, f is the
product of what it has in common with v, v less 1, v less 2, and so on.)
"""

from earstogether.modular import (
    inverse_of, modular_common, modular_difference, modular_division, modular_plain, modular_power, modular_product,
    rests,
)
from earstogether.tables import line_with


def has_no_square(wholes, prime):
    """Whether the list keeps its length modulo the prime, and no factor goes into it twice there."""
    if wholes[-1] % prime == 0:
        return False
    slope = rests([k * number for k, number in enumerate(wholes)][1:], prime)
    return len(modular_common(rests(wholes, prime), slope, prime)) == 1


def split(wholes, prime):
    """The prime factors modulo the prime, each ending with 1; none of them goes twice into the list."""
    plain = modular_plain(rests(wholes, prime), prime)
    fixed = fixed_ones(plain, prime)
    parts = [plain]
    for one in fixed:
        if len(parts) < len(fixed):
            parts = [piece for part in parts for piece in pieces(part, one, prime)]
    return parts


def pieces(part, one, prime):
    """What part has in common with one, less each number; they are as many as can be told apart by one."""
    found = []
    for number in range(prime):
        _, rest = modular_division(modular_difference(one, [number], prime), part, prime)
        shared = modular_common(part, rest, prime)
        if len(shared) > 1:
            found.append(shared)
    return found


def fixed_ones(plain, prime):
    """Lists of which all v are made such that v to the power of the prime is v, modulo plain."""
    many = len(plain) - 1
    step = modular_power([0, 1], prime, plain, prime)
    powers = [[1]]
    for _ in range(many - 1):
        _, rest = modular_division(modular_product(powers[-1], step, prime), plain, prime)
        powers.append(rest)
    lines = [power + [0] * (many - len(power)) for power in powers]
    for k in range(many):
        lines[k][k] -= 1
    return null_lists(lines, prime)


def null_lists(lines, prime):
    """Lists of which all are made that, one by one times these lines, come to nothing."""
    many = len(lines)
    # Each line keeps beside it how it was made; what makes a line of noughts is one of the lists.
    waiting = [
        [number % prime for number in line] + [1 if k == at else 0 for k in range(many)]
        for at, line in enumerate(lines)
    ]
    for place in range(many):
        at = line_with(waiting, place)
        if at is not None:
            top = waiting.pop(at)
            by = inverse_of(top[place], prime)
            waiting = [without_top(line, top, line[place] * by, prime) for line in waiting]
    return [rests(line[many:], prime) for line in waiting]


def without_top(line, top, by, prime):
    return [(number - by * lower) % prime for number, lower in zip(line, top)]
