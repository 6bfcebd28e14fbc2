"""What the tests of Stations and Benches need: a slow Station, deeds at random, and a log of what is told."""

from fractions import Fraction

from earstogether.arrays import Array
from earstogether.errors import EarError
from tests.support import row_from

NAMES = ("a", "b", "c", "d1", "e", "long0000", "x", "y2", "zz", "z9")


class SlowStation:
    """What section 14 tells of a Station, all from nothing each time: told has the worths by moments, by NAMES."""

    def __init__(self, ways):
        self.ways = ways
        self.places = {}
        self.told = {}
        self.used = set()

    def put(self, name, place):
        if name in self.places:
            return ("Taken", name)
        if len(self.places) == 8:
            return ("Full", name)
        self.places[name], self.told[name] = place, {}

    def take(self, name):
        if name not in self.places:
            return ("NoEar", name)
        del self.places[name], self.told[name]

    def hear(self, name, first, worths):
        if name not in self.places:
            return ("NoEar", name)
        taken = [moment for moment in range(first, first + len(worths)) if moment in self.told[name]]
        if taken:
            return ("Told", taken[0])
        for k, worth in enumerate(worths):
            self.told[name][first + k] = worth

    def unhear(self, name, first, last):
        if name not in self.places:
            return ("NoEar", name)
        if last < first:
            return ("BadNumber", last)
        for moment in range(first, last + 1):
            self.told[name].pop(moment, None)

    def ears(self):
        return tuple(sorted(self.places.items()))

    def holes(self, name):
        told = self.told[name]
        return tuple([moment for moment in range(min(told), max(told)) if moment not in told]) if told else ()

    def ready(self):
        return tuple([name for name in sorted(self.places) if self.told[name] and not self.holes(name)])

    def records(self):
        return tuple([row_from({m: Fraction(*w) for m, w in self.told[name].items()}) for name in self.ready()])

    def array(self):
        return Array(tuple([(name, self.places[name]) for name in self.ready()]), self.ways)

    def use(self):
        places = tuple([self.places[name] for name in self.ready()])
        self.used |= {places[:k] for k in range(1, len(places) + 1)}


def random_place(source, ways, far=3):
    return tuple([source.randint(-far, far) for _ in ways[0]])


def random_worths(source, most=6):
    return tuple([source.choice(((0, 1), (1, 1), (-2, 1), (1, 2), (-7, 3))) for _ in range(source.randint(1, most))])


def random_deed(source, ways, names=NAMES[:5]):
    """A deed and its arguments; some of them will be refused."""
    name, first = source.choice(names), source.randint(-6, 8)
    word = source.choice(("put", "put", "take", "hear", "hear", "hear", "hear", "unhear"))
    if word == "put":
        return word, (name, random_place(source, ways))
    if word == "take":
        return word, (name,)
    if word == "hear":
        return word, (name, first, random_worths(source))
    return word, (name, first, first + source.randint(-1, 4))


def line_of(word, arguments):
    """The line that tells a deed."""
    words = [word, arguments[0]]
    if word == "put":
        words += [str(number) for number in arguments[1]]
    elif word == "hear":
        worths = [str(top) if bottom == 1 else f"{top}/{bottom}" for top, bottom in arguments[2]]
        words += [str(arguments[1]), *worths]
    elif word == "unhear":
        words += [str(number) for number in arguments[1:]]
    return " ".join(words)


def outcome(look, *arguments):
    """What a call tells, or (the error's name, its value)."""
    try:
        return look(*arguments)
    except EarError as error:
        return (type(error).__name__, error.value)


def log_of(station):
    """All that a Station tells without using steps, and how many it has used."""
    return repr((
        station.ways, station.ears, station.ready, station.records, [station.holes(name) for name, _ in station.ears],
        station.work,
    ))
