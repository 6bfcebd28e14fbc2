"""What keeping.py refuses: sections 2 and 14."""

import itertools
import unittest

from earstogether.errors import (
    BadName, BadNumber, BadPlace, BadWays, BadWorths, Full, NoEar, NoneReady, NoStation, Taken, Told,
)
from earstogether import keeping
from earstogether.keeping import Station
from tests.keeping_support import log_of
from tests.support import NO_FRACTIONS, NO_INTEGERS, Thing, assert_refused, deep
from tests.test_array_refusals import BAD_NAMES, NO_PLACES, bad_ways

WAYS = ((1, 0), (0, -1))
ONE = (1, 1)

NO_PLACES_HERE = (*NO_PLACES, (0,), (0, 0, 0), (1, 1, 1, 1), [1, 1], deep(tuple), deep(list))
NO_NAMES = (*BAD_NAMES, deep(tuple), deep(list), 10 ** 9, {"a": 1})
NO_EARS = (*NO_NAMES, "c", "z", "b1", "aa")
NO_MOMENTS = (*NO_INTEGERS, -1001, 1001, 10 ** 9, -(10 ** 9), deep(tuple))
NO_WORTHS = (
    None, True, 0, "", "1", ONE, (), [], [ONE], [ONE, ONE], {ONE: 1}, (ONE, None), (None, ONE), ((ONE,),), (ONE,) * 41, ((0, 1),) * 100,
    deep(tuple), deep(list), Thing(),
) + tuple([(wrong,) for wrong in NO_FRACTIONS]) + tuple([(ONE, wrong, ONE) for wrong in NO_FRACTIONS])


def station_under_test():
    station = Station(WAYS)
    station.put("a", (0, 0))
    station.put("b", (2, 0))
    station.hear("a", 0, (ONE, (2, 1)))
    station.hear("a", 5, (ONE,))
    return station


class StationTest(unittest.TestCase):

    def setUp(self):
        self.station = station_under_test()
        self.before = log_of(self.station)

    def refused(self, error, value, look, /, *arguments, **named):
        assert_refused(self, error, value, look, *arguments, **named)
        self.assertEqual(log_of(self.station), self.before)

    def check(self, look, right, wrong):
        """That each wrong value is refused, by position and by name, and of several the one that is listed first."""
        names = list(right)
        for at, name in enumerate(names):
            error, values = wrong[name]
            for k, value in enumerate(values):
                given = {**right, name: value}
                self.refused(error, value, look, *given.values())
                self.refused(error, value, look, **dict(reversed(list(given.items()))))
                for behind in names[at + 1:]:
                    given[behind] = wrong[behind][1][k % len(wrong[behind][1])]
                self.refused(error, value, look, *given.values())
                self.refused(error, value, look, **given)

    def test_ways(self):
        for ways in bad_ways():
            if ways not in (((1,),), ((1, 0, 0),), ((1,), (2,), (3,)), ((1, 1, 1), (0, 0, 0))):
                assert_refused(self, BadWays, ways, Station, ways)
                assert_refused(self, BadWays, ways, Station, ways=ways)

    def test_put(self):
        wrong = {"name": (BadName, NO_NAMES), "place": (BadPlace, NO_PLACES_HERE)}
        self.check(self.station.put, {"name": "c", "place": (1, 1)}, wrong)
        for name in ("a", "b"):
            self.refused(Taken, name, self.station.put, name, (1, 1))
            self.refused(Taken, name, self.station.put, place=(0, 0), name=name)
        for place in NO_PLACES_HERE:
            self.refused(BadPlace, place, self.station.put, "a", place)

    def test_put_where_eight_stand(self):
        for name in "cdefgh":
            self.station.put(name, (1, 2))
        self.before = log_of(self.station)
        for name in ("i", "a1", "zzzzzzzz"):
            self.refused(Full, name, self.station.put, name, (0, 0))
        for name in "abcdefgh":
            self.refused(Taken, name, self.station.put, name, (0, 0))
        for place in NO_PLACES_HERE:
            self.refused(BadPlace, place, self.station.put, "i", place)
        for name in NO_NAMES:
            self.refused(BadName, name, self.station.put, name, (0, 0))

    def test_place_of_as_many_integers_as_ways_have(self):
        for ways, place in ((((1,),), (0,)), (((1, 0),), (0, 0)), (((1, 0, 0),), (0, 0, 0))):
            station = Station(ways)
            for wrong in ((0,), (0, 0), (0, 0, 0)):
                if len(wrong) != len(place):
                    assert_refused(self, BadPlace, wrong, station.put, "a", wrong)
            station.put("a", place)

    def test_take_and_holes(self):
        for look in (self.station.take, self.station.holes):
            for name in NO_EARS:
                self.refused(NoEar, name, look, name)
                self.refused(NoEar, name, look, name=name)

    def test_hear(self):
        wrong = {"name": (NoEar, NO_EARS), "first": (BadNumber, NO_MOMENTS), "worths": (BadWorths, NO_WORTHS)}
        self.check(self.station.hear, {"name": "b", "first": 0, "worths": (ONE,)}, wrong)
        self.check(self.station.hear, {"name": "a", "first": 0, "worths": (ONE,)}, wrong)

    def test_hear_what_is_told(self):
        for first, many, moment in ((0, 1, 0), (1, 1, 1), (1, 40, 1), (-5, 40, 0), (2, 40, 5), (5, 1, 5), (-39, 40, 0)):
            self.refused(Told, moment, self.station.hear, "a", first, (ONE,) * many)
            self.refused(Told, moment, self.station.hear, worths=(ONE,) * many, first=first, name="a")
        wrong = (ONE, None)
        self.refused(BadWorths, wrong, self.station.hear, "a", 0, wrong)
        self.refused(BadNumber, 1001, self.station.hear, "a", 1001, (ONE,))

    def test_unhear(self):
        wrong = {"name": (NoEar, NO_EARS), "first": (BadNumber, NO_MOMENTS), "last": (BadNumber, (*NO_MOMENTS, 2, -1000))}
        self.check(self.station.unhear, {"name": "a", "first": 3, "last": 3}, wrong)
        for first, last in ((0, -1), (5, 0), (1000, 999), (-999, -1000)):
            self.refused(BadNumber, last, self.station.unhear, "a", first, last)
            self.refused(BadNumber, last, self.station.unhear, last=last, first=first, name="b")

    def test_none_ready(self):
        self.station.take("b")
        for look in (self.station.array, self.station.picture, self.station.ghosts):
            assert_refused(self, NoneReady, None, look)
        self.station.hear("a", 2, (ONE,) * 3)
        self.assertEqual(self.station.array().names, ("a",))
        self.station.take("a")
        for look in (self.station.array, self.station.picture, self.station.ghosts, Station(WAYS).array, Station(WAYS).picture):
            assert_refused(self, NoneReady, None, look)

    def test_several_at_once(self):
        self.refused(NoEar, None, self.station.hear, None, None, None)
        self.refused(BadNumber, None, self.station.hear, "a", None, None)
        self.refused(BadWorths, None, self.station.hear, "a", 0, None)
        self.refused(NoEar, True, self.station.unhear, True, True, True)
        self.refused(BadNumber, True, self.station.unhear, "a", True, False)
        self.refused(BadNumber, False, self.station.unhear, "a", 1, False)
        self.refused(BadName, 1, self.station.put, 1, 1)

    def test_at_the_bounds(self):
        for first, last in itertools.product((-1000, 0, 1000), repeat=2):
            if first <= last:
                self.station.copy().unhear("a", first, last)
        self.station.hear("b", 1000, (ONE,) * 40)
        self.station.hear("b", -1000, (ONE,))
        self.assertEqual(len(self.station.holes("b")), 1999)

    def test_no_station_is_raised_by_nothing_here(self):
        self.assertFalse(hasattr(keeping, NoStation.__name__))


if __name__ == "__main__":
    unittest.main()
