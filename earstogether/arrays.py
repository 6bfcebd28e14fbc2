"""ARRAYS: where the ears stand, by which ways sounds come, and what is heard."""

from earstogether.errors import (
    BadArray, BadEars, BadNames, BadPicture, BadRecords, BadStep, BadWays, NoArray, NoEar,
)
from earstogether.figures import is_number_text, number_text, read_number
from earstogether.hearing import delays_at, heard_rows, matrix_at
from earstogether.kinds import are_rows, is_integer
from earstogether.places import are_ears, are_names_among, are_ways, is_name_among
from earstogether.rows import row_in, row_text


class Array:
    """Ears at their PLACES, and WAYS along which sounds come to them."""

    def __init__(self, ears, ways):
        if not are_ears(ears):
            raise BadEars(ears)
        if not are_ways(ways) or len(ways[0]) != len(ears[0][1]):
            raise BadWays(ways)
        self.ears = ears
        self.ways = ways
        self.names = tuple([name for name, _ in ears])
        self.text = text_of(ears, ways)

    def __eq__(self, other):
        return isinstance(other, Array) and self.ears == other.ears and self.ways == other.ways


def text_of(ears, ways):
    lines = ["ear " + name + " " + numbers_text(place) for name, place in ears]
    return "\n".join(lines + ["way " + numbers_text(way) for way in ways])


def numbers_text(numbers):
    return " ".join([number_text(number) for number in numbers])


def check_array(value):
    if not isinstance(value, Array):
        raise NoArray(value)


def is_picture(array, value):
    return are_rows(value) and len(value) == len(array.ways)


def are_records(array, value):
    return are_rows(value) and len(value) == len(array.ears)


def check_picture(array, value):
    if not is_picture(array, value):
        raise BadPicture(value)


def check_records(array, value):
    if not are_records(array, value):
        raise BadRecords(value)


def delays(array):
    """For each ear the delays of all WAYS there."""
    check_array(array)
    return delays_at(array.ears, array.ways)


def matrix(array):
    """For each ear, for each WAY, what it hears of a click along it."""
    check_array(array)
    return matrix_at(array.ears, array.ways)


def heard(array, picture):
    """The RECORDS of what comes along the WAYS."""
    check_array(array)
    check_picture(array, picture)
    return heard_rows(array.ears, array.ways, picture)


def without(array, names):
    """The ARRAY without these ears."""
    check_array(array)
    if not are_names_among(names, array.names) or len(names) == len(array.names):
        raise BadNames(names)
    return Array(tuple([ear for ear in array.ears if ear[0] not in names]), array.ways)


def ear_of(array, name):
    """The number of the ear of this NAME."""
    check_array(array)
    if not is_name_among(name, array.names):
        raise NoEar(name)
    return array.names.index(name)


def moved(array, step):
    """The ARRAY with all PLACES moved by this step."""
    check_array(array)
    if not is_step(array, step):
        raise BadStep(step)
    ears = moved_ears(array.ears, step)
    if not are_ears(ears):
        raise BadStep(step)
    return Array(ears, array.ways)


def is_step(array, value):
    if type(value) is not tuple or len(value) != len(array.ways[0]):
        return False
    return all([is_integer(number) for number in value])


def moved_ears(ears, step):
    return tuple([(name, tuple([number + by for number, by in zip(place, step)])) for name, place in ears])


def read_array(text):
    """The ARRAY of this text."""
    if type(text) is not str:
        raise BadArray(0)
    ears, ways = (), ()
    lines = text.split("\n")
    for number, line in enumerate(lines, 1):
        word, _, rest = line.partition(" ")
        if word == "ear" and len(ways) == 0:
            ears = (*ears, read_ear(rest))
        elif word == "way" and len(ears) > 0:
            ways = (*ways, read_numbers(rest.split(" ")))
        else:
            raise BadArray(number)
        if not can_stand(ears, ways):
            raise BadArray(number)
    if len(ways) == 0:
        raise BadArray(len(lines) + 1)
    return Array(ears, ways)


def read_ear(text):
    name, *words = text.split(" ")
    return (name, read_numbers(words))


def read_numbers(words):
    """The integers of these words; None if there are others among them."""
    if not all([is_number_text(word) for word in words]):
        return None
    return tuple([read_number(word) for word in words])


def can_stand(ears, ways):
    """Whether these are EARS, and WAYS that go to them, if there are WAYS at all."""
    if len(ways) == 0:
        return are_ears(ears)
    return are_ways(ways) and len(ways[0]) == len(ears[0][1])


def records_text(array, records):
    """The text of RECORDS: a line for each ear."""
    check_array(array)
    check_records(array, records)
    return "\n".join([name + " " + row_text(row) for name, row in zip(array.names, records)])


def read_records(array, text):
    """The RECORDS of this text."""
    check_array(array)
    records = records_in(array.names, text) if type(text) is str else None
    if records is None:
        raise BadRecords(text)
    return records


def records_in(names, text):
    """The RECORDS of this text, for ears of these NAMES; None if it is that of none."""
    parts = [line.partition(" ") for line in text.split("\n")]
    if [name for name, _, _ in parts] != list(names):
        return None
    records = tuple([row_in(rest) for _, _, rest in parts])
    return records if are_rows(records) else None
