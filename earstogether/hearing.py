"""What arrays.py tells of EARS, WAYS and PICTURES, for those that are known to be such."""

from earstogether.kinds import NOTHING
from earstogether.reckoning import row_sum, shifted_row


def delay_of(way, place):
    return sum([number * by for number, by in zip(way, place)])


def delays_at(ears, ways):
    """For each ear the tuple of the delays of all WAYS."""
    return tuple([tuple([delay_of(way, place) for way in ways]) for _, place in ears])


def clicks_at(place, ways):
    """The tuple of the ROWS of clicks, later by the delays of all WAYS at this PLACE."""
    return tuple([(delay_of(way, place), ((1, 1),)) for way in ways])


def matrix_at(ears, ways):
    """For each ear the tuple of the clicks of all WAYS there."""
    return tuple([clicks_at(place, ways) for _, place in ears])


def heard_rows(ears, ways, picture):
    return tuple([heard_at(line, picture) for line in delays_at(ears, ways)])


def heard_at(line, picture):
    """What is heard of a PICTURE where the WAYS have these delays."""
    total = NOTHING
    for delay, row in zip(line, picture):
        total = row_sum(total, shifted_row(row, delay))
    return total
