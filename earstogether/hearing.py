"""What arrays.py tells of EARS, WAYS and PICTURES, for those that are known to be such."""

from earstogether.kinds import NOTHING
from earstogether.reckoning import row_sum, shifted_row


def delay_of(way, place):
    return sum([number * by for number, by in zip(way, place)])


def delays_at(ears, ways):
    """For each ear the tuple of the delays of all WAYS."""
    return tuple([tuple([delay_of(way, place) for way in ways]) for _, place in ears])


def matrix_at(ears, ways):
    """For each ear the tuple of the ROWS of clicks, later by the delays of all WAYS."""
    return tuple([tuple([(delay, ((1, 1),)) for delay in line]) for line in delays_at(ears, ways)])


def heard_rows(ears, ways, picture):
    return tuple([heard_at(line, picture) for line in delays_at(ears, ways)])


def heard_at(line, picture):
    """What is heard of a PICTURE where the WAYS have these delays."""
    total = NOTHING
    for delay, row in zip(line, picture):
        total = row_sum(total, shifted_row(row, delay))
    return total
