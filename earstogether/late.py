"""Ears that write down late, by lags that nobody knows."""

from earstogether.arrays import check_array, check_records
from earstogether.choirs import is_paper
from earstogether.errors import BadLags, BadLate, NoEar
from earstogether.kinds import is_ascending, is_integer
from earstogether.pictures import steps_of_array
from earstogether.places import is_name_among
from earstogether.reckoning import shifted_row

MOST_LATE = 6
GREATEST_BOUND = 63
MOST_LAGS = 64


def is_late(array, value):
    if type(value) is not tuple or not 1 <= len(value) <= MOST_LATE:
        return False
    if not all([is_late_pair(array, pair) for pair in value]) or not is_ascending([name for name, _ in value]):
        return False
    many = 1
    for _, bound in value:
        many = many * (bound + 1)
    return many <= MOST_LAGS


def is_late_pair(array, value):
    if type(value) is not tuple or len(value) != 2 or not is_name_among(value[0], array.names):
        return False
    return is_integer(value[1]) and 0 <= value[1] <= GREATEST_BOUND


def are_lags(late, value):
    if type(value) is not tuple or len(value) != len(late):
        return False
    return all([is_integer(lag) and 0 <= lag <= bound for lag, (_, bound) in zip(value, late)])


def check_written(array, records, late):
    check_array(array)
    check_records(array, records)
    if not is_late(array, late):
        raise BadLate(late)


def check_lags(late, value):
    if not are_lags(late, value):
        raise BadLags(value)


def records_with(array, records, late, lags):
    """What was heard, if the lags are these."""
    by = {name: lag for (name, _), lag in zip(late, lags)}
    return tuple([shifted_row(row, -by.get(name, 0)) for name, row in zip(array.names, records)])


def every_lags(late):
    """The ascending list of all LAGS of LATE."""
    found = [()]
    for _, bound in late:
        found = [(*lags, lag) for lags in found for lag in range(bound + 1)]
    return found


def fitting_lags(array, records, late):
    """The ascending tuple of all LAGS with which some PICTURE is heard."""
    steps = steps_of_array(array)
    return tuple([lags for lags in every_lags(late) if steps.reaches(records_with(array, records, late, lags))])


def put_back(array, records, late, lags):
    """The RECORDS of what was heard, if the lags are these."""
    check_written(array, records, late)
    check_lags(late, lags)
    return records_with(array, records, late, lags)


def all_lags(array, records, late):
    """The ascending tuple of all LAGS with which some PICTURE is heard."""
    check_written(array, records, late)
    return fitting_lags(array, records, late)


def lags_of(array, records, late):
    """For each late ear (NAME, all its lags with which some PICTURE is heard)."""
    check_written(array, records, late)
    found = fitting_lags(array, records, late)
    return tuple([(name, lags_at(found, k)) for k, (name, _) in enumerate(late)])


def lags_at(found, place):
    return tuple(sorted(set([lags[place] for lags in found])))


def word_of(array, records, late, name):
    """Whether there are no LAGS at all ("none"), this ear's lag is the same in all ("sure"), or not ("open")."""
    check_written(array, records, late)
    names = [one for one, _ in late]
    if not is_name_among(name, names):
        raise NoEar(name)
    many = len(lags_at(fitting_lags(array, records, late), names.index(name)))
    if many == 0:
        return "none"
    return "sure" if many == 1 else "open"


def why_not(array, records, late, lags):
    """A PAPER for what was heard, if the lags are these; None if they can be."""
    check_written(array, records, late)
    check_lags(late, lags)
    return steps_of_array(array).reason(records_with(array, records, late, lags))


def shows_why_not(array, records, late, lags, value):
    """Whether why_not may tell this value."""
    check_written(array, records, late)
    check_lags(late, lags)
    before = records_with(array, records, late, lags)
    if value is None:
        return steps_of_array(array).reaches(before)
    return is_paper(array, before, value)
