"""Which LOTS of ears are enough, for all or for one WAY, and whose loss hides something."""

from earstogether.arrays import check_array
from earstogether.errors import BadNames, NoEar, NoWay
from earstogether.kinds import is_integer
from earstogether.lots import least_lots, lot_rank_of, told_ways
from earstogether.places import are_names_among, is_name_among


def check_lot(array, value):
    if not are_names_among(value, array.names):
        raise BadNames(value)


def check_way(array, value):
    if not is_integer(value) or not 0 <= value < len(array.ways):
        raise NoWay(value)


def ears_in(array, names):
    return [ear for ear in array.ears if ear[0] in names]


def others(array, names):
    return tuple([name for name in array.names if name not in names])


def rank_of(array, names):
    return lot_rank_of(ears_in(array, names), array.ways)


def are_enough(array, names):
    return rank_of(array, names) == rank_of(array, array.names)


def do_tell(array, names, way):
    return way in told_ways(ears_in(array, names), array.ways)


def lot_rank(array, names):
    """How many WAYS there are, less the GHOSTS of these ears alone; 0 for none."""
    check_array(array)
    check_lot(array, names)
    return rank_of(array, names)


def is_enough(array, names):
    """Whether what these ears hear alike is heard alike by all."""
    check_array(array)
    check_lot(array, names)
    return are_enough(array, names)


def tells(array, names, way):
    """Whether PICTURES that these ears hear alike have the same ROW for this WAY."""
    check_array(array)
    check_lot(array, names)
    check_way(array, way)
    return do_tell(array, names, way)


def least_enough(array):
    """All least LOTS that are enough."""
    check_array(array)
    return least_lots(array.names, lambda names: are_enough(array, names))


def least_for(array, way):
    """All least LOTS that tell this WAY."""
    check_array(array)
    check_way(array, way)
    return least_lots(array.names, lambda names: do_tell(array, names, way))


def least_losses(array):
    """All least LOTS without which the others aren't enough."""
    check_array(array)
    return losses_of(array)


def losses_of(array):
    return least_lots(array.names, lambda names: not are_enough(array, others(array, names)))


def least_losses_for(array, way):
    """All least LOTS without which the others don't tell this WAY; none if not even all ears do."""
    check_array(array)
    check_way(array, way)
    if not do_tell(array, array.names, way):
        return ()
    return least_lots(array.names, lambda names: not do_tell(array, others(array, names), way))


def least_choirs(array):
    """All least LOTS with a silent CHOIR of their own."""
    check_array(array)
    return least_lots(array.names, lambda names: rank_of(array, names) < len(names))


def spare(array):
    """How many ears may be lost, whichever they are, such that the others are enough."""
    check_array(array)
    return min([len(names) for names in losses_of(array)]) - 1


def word_of_ear(array, name):
    """Whether the others are enough without this ear ("spare"), or not ("needed")."""
    check_array(array)
    if not is_name_among(name, array.names):
        raise NoEar(name)
    return "spare" if are_enough(array, others(array, (name,))) else "needed"
