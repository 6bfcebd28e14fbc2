"""The lines that tell deeds: what they say, and what is done to a Station."""

from earstogether.errors import BadTask
from earstogether.figures import is_number_text, read_fraction, read_number
from earstogether.places import MOST_NUMBERS, is_name


def words_of_line(line):
    """The words of a line; BadTask for what is no string, or has a line feed."""
    if type(line) is not str or "\n" in line:
        raise BadTask(line)
    return line.split(" ")


def numbers_in(words):
    """The integers of these words; None if there are others among them."""
    if not all([is_number_text(word) for word in words]):
        return None
    return tuple([read_number(word) for word in words])


def deed_in(words):
    """What these words tell: (deed, its arguments); None if they are of no form."""
    if len(words) < 2 or not is_name(words[1]):
        return None
    deed, name, *rest = words
    arguments = arguments_in(deed, rest)
    return None if arguments is None else (deed, (name, *arguments))


def arguments_in(deed, words):
    """The arguments behind the NAME; None if there is no such deed with these words."""
    if deed == "put":
        return place_in(words)
    if deed == "take":
        return () if len(words) == 0 else None
    if deed == "hear":
        return worths_in(words)
    if deed == "unhear":
        return numbers_in(words) if len(words) == 2 else None
    return None


def place_in(words):
    place = numbers_in(words) if 1 <= len(words) <= MOST_NUMBERS else None
    return None if place is None else (place,)


def worths_in(words):
    """(first, worths) of a number and some FRACTIONS, one at least."""
    if len(words) < 2 or not is_number_text(words[0]):
        return None
    worths = tuple([read_fraction(word) for word in words[1:]])
    return None if None in worths else (read_number(words[0]), worths)


def do_at(station, deed, arguments):
    if deed == "put":
        station.put(*arguments)
    elif deed == "take":
        station.take(*arguments)
    elif deed == "hear":
        station.hear(*arguments)
    else:
        station.unhear(*arguments)
