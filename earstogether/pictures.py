"""PICTURES: what came along each WAY, and GHOSTS, of which no ear hears anything."""

from earstogether.arrays import check_array, check_picture, check_records, is_picture
from earstogether.dividing import common_row
from earstogether.errors import BadNumber, NotGhost
from earstogether.hearing import heard_rows, matrix_at
from earstogether.kinds import NOTHING, is_integer
from earstogether.solving import Steps
from earstogether.spanning import is_base_as, shares_in


def steps_of_array(array):
    return Steps(matrix_at(array.ears, array.ways))


def ghosts_of(array):
    return steps_of_array(array).base_rows()


def are_nothing(rows):
    return all([row == NOTHING for row in rows])


def is_heard_as(array, picture, records):
    return heard_rows(array.ears, array.ways, picture) == records


def picture_of(array, records):
    """A PICTURE that is heard as these RECORDS; None if there is none."""
    check_array(array)
    check_records(array, records)
    return steps_of_array(array).solution(records)


def shows_picture_of(array, records, value):
    """Whether picture_of may tell this value."""
    check_array(array)
    check_records(array, records)
    if value is None:
        return not steps_of_array(array).reaches(records)
    return is_picture(array, value) and is_heard_as(array, value, records)


def is_ghost(array, picture):
    """Whether no ear hears anything of it."""
    check_array(array)
    check_picture(array, picture)
    return are_nothing(heard_rows(array.ears, array.ways, picture))


def ghosts(array):
    """GHOSTS of which each GHOST is made, in just one way."""
    check_array(array)
    return ghosts_of(array)


def shows_ghosts(array, value):
    """Whether ghosts may tell this value."""
    check_array(array)
    if type(value) is not tuple or not all([is_picture(array, picture) for picture in value]):
        return False
    return is_base_as(ghosts_of(array), value)


def shares(array, picture):
    """The ROWS, one for each of the ghosts, times which these are the GHOST."""
    if not is_ghost(array, picture):
        raise NotGhost(picture)
    return shares_in(ghosts_of(array), picture)


def told(array, way):
    """("told",) if PICTURES heard alike have the same ROW there, otherwise ("up to", what they differ by)."""
    check_array(array)
    if not is_integer(way) or not 0 <= way < len(array.ways):
        raise BadNumber(way)
    row = common_row([ghost[way] for ghost in ghosts_of(array)])
    return ("told",) if row == NOTHING else ("up to", row)


def is_all_told(array):
    """Whether there is no GHOST but the one of nothing."""
    check_array(array)
    return len(ghosts_of(array)) == 0
