"""ROWS: what there is moment by moment, in fractions."""

from earstogether.errors import BadFraction, BadNumber, BadRow, BadWorths
from earstogether.figures import fraction_text, is_number_text, number_text, read_fraction, read_number
from earstogether.kinds import NOTHING, are_fractions, check_row, is_fraction, is_integer, is_row
from earstogether.reckoning import contrary, row_product, row_sum, scaled_row, shifted_row, turned_row, worth_at
from earstogether.wholes import trimmed

MOST_WORTHS = 200


def row_of(first, worths):
    """The ROW with worth number i at the moment first + i."""
    check_number(first)
    if not are_fractions(worths) or len(worths) > MOST_WORTHS:
        raise BadWorths(worths)
    return trimmed(first, worths)


def check_number(value):
    if not is_integer(value):
        raise BadNumber(value)


def plus(one, other):
    """The sum at each moment."""
    check_row(one)
    check_row(other)
    return row_sum(one, other)


def less(one, other):
    """The difference at each moment."""
    check_row(one)
    check_row(other)
    return row_sum(one, contrary(other))


def times(one, other):
    """At each moment the sum of the products of worths whose moments add up to it."""
    check_row(one)
    check_row(other)
    return row_product(one, other)


def scaled(row, by):
    """Each worth taken times the FRACTION by."""
    check_row(row)
    if not is_fraction(by):
        raise BadFraction(by)
    return scaled_row(row, by)


def shifted(row, by):
    """Each worth by so many moments later."""
    check_row(row)
    check_number(by)
    return shifted_row(row, by)


def turned(row):
    """The worth at each moment m comes to the moment -m."""
    check_row(row)
    return turned_row(row)


def worth(row, moment):
    """The FRACTION at this moment."""
    check_row(row)
    check_number(moment)
    return worth_at(row, moment)


def spread(row):
    """How many worths there are, less one; None for nothing."""
    check_row(row)
    return len(row[1]) - 1 if row[1] else None


def row_text(row):
    """The text of a ROW, as `3: 1 -1/2 0 2`; `-` for nothing."""
    check_row(row)
    if len(row[1]) == 0:
        return "-"
    return number_text(row[0]) + ": " + " ".join([fraction_text(part) for part in row[1]])


def read_row(text):
    """The ROW of this text."""
    row = row_in(text) if type(text) is str else None
    if row is None:
        raise BadRow(text)
    return row


def row_in(text):
    if text == "-":
        return NOTHING
    first, colon, words = text.partition(": ")
    if colon == "" or not is_number_text(first):
        return None
    row = (read_number(first), tuple([read_fraction(word) for word in words.split(" ")]))
    return row if is_row(row) else None
