"""Stations: ears that come and go, and what they heard, as it comes in."""

from earstogether.arrays import Array
from earstogether.errors import (
    BadName, BadNumber, BadPlace, BadWays, BadWorths, Full, NoEar, NoneReady, Taken, Told,
)
from earstogether.keptsteps import KeptSteps
from earstogether.kinds import are_fractions, is_integer
from earstogether.places import MOST_EARS, are_ways, is_name, is_name_among, is_place
from earstogether.wholes import trimmed

FARTHEST_MOMENT = 1000
MOST_WORTHS = 40


def check_moment(value):
    if not is_integer(value) or not -FARTHEST_MOMENT <= value <= FARTHEST_MOMENT:
        raise BadNumber(value)


def post_of(place, told):
    """(PLACE, told, ROW) of an ear: told has the worths by their moments; the ROW is None unless the ear is ready."""
    if len(told) == 0 or max(list(told)) - min(list(told)) >= len(told):
        return (place, told, None)
    return (place, told, trimmed(min(list(told)), [told[moment] for moment in sorted(told)]))


class Station:
    """Ears at their PLACES, and what is told of what they heard.

    posts has the post of each ear that stands, by its NAME. Neither it nor
    what it contains is ever changed, but replaced: so whoever keeps it keeps
    how the Station stood.
    """

    def __init__(self, ways):
        if not are_ways(ways):
            raise BadWays(ways)
        self.ways = ways
        self.posts = {}
        self.ears = ()
        self.ready = ()
        self.records = ()
        self.work = 0
        self.used = KeptSteps(ways)

    def __eq__(self, other):
        return isinstance(other, Station) and self.ways == other.ways and self.posts == other.posts

    def stand(self, posts):
        """Makes this a Station with these posts."""
        names = sorted(posts)
        self.posts = posts
        self.ears = tuple([(name, posts[name][0]) for name in names])
        self.ready = tuple([name for name in names if posts[name][2] is not None])
        self.records = tuple([posts[name][2] for name in self.ready])

    def tell(self, name, told):
        """Makes this what is told at an ear that stands."""
        self.stand({**self.posts, name: post_of(self.posts[name][0], told)})

    def told_at(self, name):
        """The worths that are told at this ear, by their moments."""
        if not is_name_among(name, self.posts):
            raise NoEar(name)
        return self.posts[name][1]

    def put(self, name, place):
        """From now on an ear of this NAME stands at this PLACE."""
        if not is_name(name):
            raise BadName(name)
        if not is_place(place) or len(place) != len(self.ways[0]):
            raise BadPlace(place)
        if name in self.posts:
            raise Taken(name)
        if len(self.posts) == MOST_EARS:
            raise Full(name)
        self.stand({**self.posts, name: post_of(place, {})})

    def take(self, name):
        """The ear of this NAME stands no more."""
        self.told_at(name)
        self.stand({other: self.posts[other] for other in self.posts if other != name})

    def hear(self, name, first, worths):
        """From now on the worths are told at this ear at the moments from first on."""
        before = self.told_at(name)
        check_moment(first)
        if not are_fractions(worths) or not 1 <= len(worths) <= MOST_WORTHS:
            raise BadWorths(worths)
        told = {moment: before[moment] for moment in before}
        for moment, worth in enumerate(worths, first):
            if moment in before:
                raise Told(moment)
            told[moment] = worth
        self.tell(name, told)

    def unhear(self, name, first, last):
        """What is told at this ear from first to last is told no more."""
        before = self.told_at(name)
        check_moment(first)
        check_moment(last)
        if last < first:
            raise BadNumber(last)
        self.tell(name, {moment: before[moment] for moment in before if not first <= moment <= last})

    def holes(self, name):
        """The moments between the first and the last one told at this ear at which nothing is told."""
        told = self.told_at(name)
        if len(told) == 0:
            return ()
        return tuple([moment for moment in range(min(list(told)), max(list(told))) if moment not in told])

    def array(self):
        """The ARRAY of the ears that are ready."""
        if len(self.ready) == 0:
            raise NoneReady(None)
        return Array(tuple([ear for ear in self.ears if ear[0] in self.ready]), self.ways)

    def picture(self):
        """A PICTURE that the ears that are ready hear as their records; None if there is none."""
        return self.steps().solution(self.records)

    def ghosts(self):
        """GHOSTS of which each GHOST of the ears that are ready is made, in just one way."""
        return self.steps().base_rows()

    def steps(self):
        """The steps of the ears that are ready: used now, and so kept."""
        told = self.used.steps_to(self.array().ears)
        self.work = len(self.used.kept)
        return told

    def copy(self):
        """An independent Station, alike in all things."""
        other = Station(self.ways)
        other.stand(self.posts)
        other.used = self.used.copy()
        other.work = self.work
        return other
