"""What is a NAME, a PLACE, a WAY; what are EARS and WAYS."""

from earstogether.kinds import is_ascending, is_integer

LETTERS = "abcdefghijklmnopqrstuvwxyz"
LETTERS_AND_FIGURES = "abcdefghijklmnopqrstuvwxyz0123456789"
LONGEST_NAME = 8
MOST_NUMBERS = 3
FARTHEST = 10
STEEPEST = 3
MOST_EARS = 8
MOST_WAYS = 6


def is_name(value):
    if type(value) is not str or not 1 <= len(value) <= LONGEST_NAME:
        return False
    return value[0] in LETTERS and all([sign in LETTERS_AND_FIGURES for sign in value])


def are_numbers_within(value, bound):
    """Whether this is a tuple of 1 to 3 integers from -bound to bound."""
    if type(value) is not tuple or not 1 <= len(value) <= MOST_NUMBERS:
        return False
    return all([is_integer(number) and -bound <= number <= bound for number in value])


def is_place(value):
    return are_numbers_within(value, FARTHEST)


def is_way(value):
    return are_numbers_within(value, STEEPEST)


def is_ear(value):
    return type(value) is tuple and len(value) == 2 and is_name(value[0]) and is_place(value[1])


def are_ears(value):
    if type(value) is not tuple or not 1 <= len(value) <= MOST_EARS:
        return False
    if not all([is_ear(ear) for ear in value]):
        return False
    return is_ascending([name for name, _ in value]) and are_as_long([place for _, place in value])


def are_ways(value):
    """Whether these are WAYS, to PLACES of as many integers as they have."""
    if type(value) is not tuple or not 1 <= len(value) <= MOST_WAYS:
        return False
    if not all([is_way(way) for way in value]):
        return False
    return len(set(value)) == len(value) and are_as_long(value)


def are_as_long(parts):
    return all([len(part) == len(parts[0]) for part in parts])


def are_names_among(value, names):
    """Whether this is an ascending tuple of none or more of these NAMES, each once."""
    if type(value) is not tuple or not all([is_name_among(name, names) for name in value]):
        return False
    return is_ascending(value)


def is_name_among(value, names):
    return type(value) is str and value in names
