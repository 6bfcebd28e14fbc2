"""LOTS of ears: what they tell of the WAYS, and the least ones that have something.

All of it hangs on which determinants of clicks are nothing: sums of at most
720 clicks, later or earlier, with or without a minus. So clicks are taken for
powers of 1024 instead: then such a sum is 0 only if it is nothing.
"""

from itertools import combinations

from earstogether.hearing import delays_at
from earstogether.tables import line_with

BITS = 10


def numbers_of(ears, ways):
    """For each ear, for each WAY, 2 to the power of 10 for each moment of delay, behind the least one."""
    lines = delays_at(ears, ways)
    return [[1 << (BITS * (delay - min(line))) for delay in line] for line in lines]


def brought_down(lines):
    """(places, lines): lines that come to the same, each with a place where it alone has a number.

    All numbers there are the same one, a determinant; and so are all others.
    """
    lines, places, done = [list(line) for line in lines], [], []
    before = 1
    for place in range(len(lines[0]) if lines else 0):
        at = line_with(lines, place)
        if at is not None:
            top = lines.pop(at)
            lines = [without_number(line, top, place, before) for line in lines]
            done = [without_number(line, top, place, before) for line in done] + [top]
            places.append(place)
            before = top[place]
    return (places, done)


def without_number(line, top, place, before):
    """The line, with 0 at this place; what it is divided by goes into it, as all are determinants."""
    own, by = top[place], line[place]
    return [(number * own - by * lower) // before for number, lower in zip(line, top)]


def lot_rank_of(ears, ways):
    return len(brought_down(numbers_of(ears, ways))[0])


def told_ways(ears, ways):
    """The numbers of the WAYS that are told: where a line has a number at this WAY alone."""
    places, lines = brought_down(numbers_of(ears, ways))
    return [place for place, line in zip(places, lines) if len([number for number in line if number != 0]) == 1]


def least_lots(names, has):
    """The ascending tuple of all least lots of these that have something, as all that are more do, too."""
    return least_lots_up_to(names, len(names), has)


def least_lots_up_to(names, most, has):
    """Those least lots that are of so many at most."""
    names = list(names)
    found = []
    for size in range(most + 1):
        for lot in combinations(names, size):
            if not any([is_part(least, lot) for least in found]) and has(lot):
                found.append(lot)
    return tuple(sorted(found))


def is_part(one, lot):
    return all([name in lot for name in one])
