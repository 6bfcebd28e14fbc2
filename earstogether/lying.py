"""Ears that write down what they like, if so many lie at most."""

from itertools import combinations

from earstogether.arrays import check_array, check_records, ear_of, without
from earstogether.errors import BadNumber
from earstogether.hearing import heard_rows
from earstogether.keptsteps import KeptSteps
from earstogether.kinds import NOTHING, is_integer
from earstogether.lots import least_lots_up_to
from earstogether.needed import spare
from earstogether.pictures import is_all_told, picture_of, shows_picture_of


def check_most(array, value):
    if not is_integer(value) or not 0 <= value < len(array.ears):
        raise BadNumber(value)


def check_written(array, records, most):
    check_array(array)
    check_records(array, records)
    check_most(array, most)


def records_but(array, records, names):
    """The RECORDS of the ears that these names do not name."""
    return tuple([row for name, row in zip(array.names, records) if name not in names])


def picture_but(array, records, names):
    """A PICTURE by which no ears but some of these lie; None if there is none."""
    check_array(array)
    check_records(array, records)
    return picture_of(without(array, names), records_but(array, records, names))


def shows_picture_but(array, records, names, value):
    """Whether picture_but may tell this value."""
    check_array(array)
    check_records(array, records)
    return shows_picture_of(without(array, names), records_but(array, records, names), value)


def stories(array, records, most):
    """All least LOTS, of so many ears at most, such that these alone may be lying."""
    check_written(array, records, most)
    kept = KeptSteps(array.ways)
    return least_lots_up_to(array.names, most, lambda names: may_be_lying(array, records, names, kept))


def may_be_lying(array, records, names, kept):
    return kept.steps_to(without(array, names).ears).reaches(records_but(array, records, names))


def stories_that_fit(array, records, most):
    """(LOT, PICTURE, GHOSTS) for each LOT of just so many ears, as far as no others need lie.

    The PICTURE, and it with sums of the GHOSTS, are what all other ears hear
    so. Each PICTURE that fits is among them: who lies by it are part of such a LOT.
    """
    ears, found, kept = list(array.names), [], KeptSteps(array.ways)
    for names in combinations(ears, most):
        steps = kept.steps_to(without(array, names).ears)
        picture = steps.solution(records_but(array, records, names))
        if picture is not None:
            found.append((names, picture, steps.base_rows()))
    return found


def liars(array, records, picture, hidden):
    """The NAMES of the ears that lie by this PICTURE, or by a sum of it and of these GHOSTS of the others."""
    told = heard_rows(array.ears, array.ways, picture)
    more = [heard_rows(array.ears, array.ways, ghost) for ghost in hidden]
    return [
        name for k, name in enumerate(array.names)
        if told[k] != records[k] or any([rows[k] != NOTHING for rows in more])
    ]


def words_of(array, records, most):
    """For each ear its word, as word_of_one tells it.

    An ear that lies by none of the PICTURES of some LOT is left out of another
    LOT that has these PICTURES too, as no LOT has all ears.
    """
    found = stories_that_fit(array, records, most)
    lying = [liars(array, records, picture, hidden) for _, picture, hidden in found]
    words = []
    for name in array.names:
        can_lie = any([name in names for names in lying])
        can_be_true = any([name not in names for names, _, _ in found])
        words.append(word_for(can_lie, can_be_true))
    return words


def word_for(can_lie, can_be_true):
    if can_lie:
        return "open" if can_be_true else "lying"
    return "true" if can_be_true else "none"


def word_of_one(array, records, most, name):
    """Whether this ear lies by all PICTURES that fit ("lying"), by none ("true"), by some ("open"); or none fits."""
    check_written(array, records, most)
    number = ear_of(array, name)
    return words_of(array, records, most)[number]


def names_with(array, records, most, word):
    return tuple([name for name, told in zip(array.names, words_of(array, records, most)) if told == word])


def surely_lying(array, records, most):
    """The NAMES of all ears that lie by all PICTURES that fit."""
    check_written(array, records, most)
    return names_with(array, records, most, "lying")


def surely_true(array, records, most):
    """The NAMES of all ears that lie by none of the PICTURES that fit, if there are some."""
    check_written(array, records, most)
    return names_with(array, records, most, "true")


def sole(array, records, most):
    """The PICTURE that fits, if just one does; None otherwise."""
    check_written(array, records, most)
    found = stories_that_fit(array, records, most)
    if len(found) == 0 or any([len(hidden) > 0 for _, _, hidden in found]):
        return None
    picture = found[0][1]
    return picture if all([other == picture for _, other, _ in found]) else None


def safe(array):
    """With how many lying ears two PICTURES never fit; None if there are GHOSTS."""
    return spare(array) // 2 if is_all_told(array) else None
