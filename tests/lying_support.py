"""What the tests of lying ears need: all lots and what pictures.py tells of them, and arrays to try."""

import itertools
import random

from earstogether.arrays import without
from earstogether.pictures import ghosts, picture_of
from tests.array_support import ARRAYS, array_of, heard_slowly, random_array, random_picture
from tests.matrix_support import NOTHING
from tests.support import product_of, random_something, sum_of, whole_row

FOUR = array_of((0, 1, 2, 3), (0, 1))
FIVE = array_of(((0, 0), (1, 0), (0, 1), (2, 1), (-1, 2)), ((1, 0), (0, 1)))
SIX_ALIKE = array_of((3, 3, 3, 3, 3, 3), (1,))
SEVEN = array_of((0, 1, 2, 3, 4, 5, 7), (0, 1, 2))


def arrays(seed, many=12):
    source = random.Random(seed)
    return ARRAYS + (FOUR, FIVE, SIX_ALIKE, SEVEN) + tuple([random_array(source, 5, 3) for _ in range(many)])


def lots_of(array, most):
    """All lots of at most so many ears, few ones first."""
    return [lot for size in range(most + 1) for lot in itertools.combinations(array.names, size)]


def rest_of(array, records, lot):
    return tuple([row for name, row in zip(array.names, records) if name not in lot])


def picture_without(array, records, lot):
    return picture_of(without(array, lot), rest_of(array, records, lot))


def least_slowly(array, records, most):
    """The least lots without which there is a picture, by going through all lots."""
    found = [lot for lot in lots_of(array, most) if picture_without(array, records, lot) is not None]
    return tuple(sorted([lot for lot in found if not any([set(other) < set(lot) for other in found])]))


def liars_by(array, records, picture):
    told = heard_slowly(array, picture)
    return tuple([name for name, one, other in zip(array.names, told, records) if one != other])


def fitting_slowly(array, records, most):
    """Pictures that fit: for each lot one, and with it each ghost of the other ears by itself, and all together."""
    out = []
    for lot in lots_of(array, most):
        picture = picture_without(array, records, lot)
        if picture is not None:
            hidden = ghosts(without(array, lot))
            out += [picture] + [tuple([sum_of(a, b) for a, b in zip(picture, ghost)]) for ghost in hidden]
            for place, ghost in enumerate(hidden):
                more = [product_of(row, whole_row(place, 7)) for row in ghost]
                picture = tuple([sum_of(a, b) for a, b in zip(picture, more)])
            out.append(picture)
    return out


def words_slowly(array, records, most):
    """For each ear its word, by pictures that fit.

    If an ear hears some ghost of a lot, it lies by the picture, or by it with
    this ghost; if it hears none of them, it does by all of them or by none.
    """
    liars = [liars_by(array, records, picture) for picture in fitting_slowly(array, records, most)]
    words = []
    for name in array.names:
        seen = {name in lot for lot in liars}
        words.append("none" if not seen else "open" if len(seen) == 2 else "lying" if True in seen else "true")
    return words


def with_lies(source, array, many):
    """(picture, liars, records): so many ears write down something else."""
    picture = random_picture(source, array, 3)
    liars = tuple(sorted(source.sample(array.names, many)))
    records = []
    for name, row in zip(array.names, heard_slowly(array, picture)):
        records.append(sum_of(row, random_something(source, 2, 3)) if name in liars else row)
    return picture, liars, tuple(records)


def cases(seed, many=12):
    """(array, records) with none, one, or two of the records of a picture otherwise, or wholly others."""
    source = random.Random(seed)
    out = []
    for array in arrays(seed, many):
        for lies in (0, 1, 2):
            if lies <= len(array.ears):
                out.append((array, with_lies(source, array, lies)[2]))
        out.append((array, tuple([source.choice((NOTHING, whole_row(0, 1), whole_row(1, 1, 2))) for _ in array.ears])))
    return out
