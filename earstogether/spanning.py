"""Whether some tuples of ROWS make, each times a ROW and added up, just what others make."""

from earstogether.minors import determinant_of
from earstogether.solving import Steps
from earstogether.tables import transposed


def shares_in(base, rows):
    """The ROWS, one for each tuple of base, with which these come to rows; none if base is empty, and rows nothing."""
    return Steps(transposed(base)).solution(rows) if base else ()


def is_base_as(base, value):
    """Whether value, tuples of ROWS, make what base makes, in just one way as base does.

    So it is if base makes each of them, and what they are made by can be taken
    back: if the determinant of that has just one worth.
    """
    if len(value) != len(base):
        return False
    if len(base) == 0:
        return True
    steps = Steps(transposed(base))
    shares = [steps.solution(rows) for rows in value]
    if any([share is None for share in shares]):
        return False
    return len(determinant_of(shares)[1]) == 1
