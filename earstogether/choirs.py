"""CHOIRS of ears, and PAPERS, by which they show that no PICTURE is heard."""

from earstogether.arrays import are_records, check_array, check_records
from earstogether.dividing import row_is_multiple
from earstogether.errors import BadChoir
from earstogether.hearing import matrix_at
from earstogether.kinds import NOTHING, is_row
from earstogether.multiplying import column_of
from earstogether.pictures import steps_of_array
from earstogether.solving import Steps
from earstogether.spanning import is_base_as
from earstogether.tables import transposed


def is_choir(array, value):
    """Whether this is a tuple of one ROW for each ear, as RECORDS are."""
    return are_records(array, value)


def check_choir(array, value):
    if not is_choir(array, value):
        raise BadChoir(value)


def outcome_of(choir, records):
    return column_of((choir,), records)[0]


def gains_of(array, choir):
    return column_of(transposed(matrix_at(array.ears, array.ways)), choir)


def choirs_of(array):
    return Steps(transposed(matrix_at(array.ears, array.ways))).base_rows()


def outcome(array, choir, records):
    """The sum over all ears of the CHOIR's ROW times the ear's ROW."""
    check_array(array)
    check_choir(array, choir)
    check_records(array, records)
    return outcome_of(choir, records)


def gains(array, choir):
    """For each WAY the outcome of what is heard of a click along it."""
    check_array(array)
    check_choir(array, choir)
    return gains_of(array, choir)


def choirs(array):
    """Silent CHOIRS of which each silent CHOIR is made, in just one way."""
    check_array(array)
    return choirs_of(array)


def shows_choirs(array, value):
    """Whether choirs may tell this value."""
    check_array(array)
    if type(value) is not tuple or not all([is_choir(array, choir) for choir in value]):
        return False
    return is_base_as(choirs_of(array), value)


def paper(array, records):
    """A PAPER, which shows that no PICTURE is heard as these RECORDS; None if one is."""
    check_array(array)
    check_records(array, records)
    return steps_of_array(array).reason(records)


def shows_paper(array, records, value):
    """Whether paper may tell this value."""
    check_array(array)
    check_records(array, records)
    if value is None:
        return steps_of_array(array).reaches(records)
    return is_paper(array, records, value)


def is_paper(array, records, value):
    if type(value) is not tuple or len(value) != 2:
        return False
    choir, divisor = value
    if not is_choir(array, choir) or not is_row(divisor):
        return False
    if not all([row_is_multiple(gain, divisor) for gain in gains_of(array, choir)]):
        return False
    return not row_is_multiple(outcome_of(choir, records), divisor)


def only_endless(array, records):
    """Whether no PICTURE is heard as these RECORDS, though no silent CHOIR tells so."""
    check_array(array)
    check_records(array, records)
    if any([outcome_of(choir, records) != NOTHING for choir in choirs_of(array)]):
        return False
    return not steps_of_array(array).reaches(records)
