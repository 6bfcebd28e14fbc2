"""Stations: what section 14 tells of right values."""

import itertools
import random
import unittest

from earstogether.arrays import Array, heard
from earstogether.errors import EarError, NoneReady, Told
from earstogether.keeping import Station
from earstogether.pictures import ghosts, is_ghost, picture_of, shows_ghosts, shows_picture_of
from tests.array_support import random_picture
from tests.keeping_support import (
    NAMES, SlowStation, log_of, outcome, random_deed, random_place, random_worths,
)
from tests.support import Thing, assert_refused, is_in_form, whole_row

LINE = ((0,), (1,))
PLANE = ((1, 0), (0, -1))
MANY = ((0, 0, 0), (1, 0, 0), (0, 1, -1))
ONE_WAY = ((2,),)
LOTS_OF_WAYS = (LINE, PLANE, MANY, ONE_WAY, ((0,), (1,), (2,)))

NOTHING = (0, ())
ONE = (1, 1)


def station_of(ways, *ears):
    """A Station with these (NAME, PLACE, first, worths): worths are integers; none are told if there are none."""
    station = Station(ways)
    for name, place, first, worths in ears:
        station.put(name, place)
        if worths:
            station.hear(name, first, tuple([(worth, 1) for worth in worths]))
    return station


class DeedsTest(unittest.TestCase):

    def same(self, station, slow):
        self.assertEqual(station.ways, slow.ways)
        self.assertEqual(station.ears, slow.ears())
        for name in slow.places:
            self.assertEqual(station.holes(name), slow.holes(name))
        self.assertEqual(station.ready, slow.ready())
        self.assertEqual(station.records, slow.records())
        self.assertTrue(all([is_in_form(row) for row in station.records]))
        if slow.ready():
            self.assertEqual(station.array(), slow.array())
        else:
            assert_refused(self, NoneReady, None, station.array)

    def test_any_sequence(self):
        source = random.Random(401)
        refused = 0
        for ways in LOTS_OF_WAYS * 4:
            station, slow = Station(ways), SlowStation(ways)
            for _ in range(60):
                word, arguments = random_deed(source, ways)
                before = log_of(station)
                told = outcome(getattr(station, word), *arguments)
                self.assertEqual(told, getattr(slow, word)(*arguments))
                if told is not None:
                    refused += 1
                    self.assertEqual(log_of(station), before)
                self.same(station, slow)
        self.assertGreater(refused, 100)

    def test_picture_ghosts_and_work_in_any_sequence(self):
        source = random.Random(402)
        seen = {"picture": 0, "no picture": 0, "ghosts": 0, "no ghosts": 0}
        for ways in LOTS_OF_WAYS * 3:
            station, slow = Station(ways), SlowStation(ways)
            for _ in range(50):
                word, arguments = random_deed(source, ways, NAMES[:4])
                outcome(getattr(station, word), *arguments)
                getattr(slow, word)(*arguments)
                if not slow.ready():
                    assert_refused(self, NoneReady, None, source.choice((station.picture, station.ghosts)))
                elif source.random() < 0.4:
                    slow.use()
                    array, records = slow.array(), slow.records()
                    if source.random() < 0.5:
                        told = station.picture()
                        self.assertIs(shows_picture_of(array, records, told), True)
                        seen["no picture" if told is None else "picture"] += 1
                    else:
                        told = station.ghosts()
                        self.assertIs(shows_ghosts(array, told), True)
                        seen["ghosts" if told else "no ghosts"] += 1
                self.assertEqual(station.work, len(slow.used))
        self.assertGreater(min(seen.values()), 10, seen)

    def test_beside_section_8(self):
        source = random.Random(403)
        for ways in LOTS_OF_WAYS * 3:
            ears = tuple([(name, random_place(source, ways)) for name in NAMES[:source.randint(1, 5)]])
            array = Array(tuple(sorted(ears)), ways)
            picture = random_picture(source, array, 4)
            records = heard(array, picture)
            station = Station(ways)
            for at in source.sample(range(len(ears)), len(ears)):
                name, place = array.ears[at]
                station.put(name, place)
                first, worths = records[at]
                pieces = list(enumerate(worths, first)) or [(0, (0, 1))]
                for moment, worth in source.sample(pieces, len(pieces)):
                    station.hear(name, moment, (worth,))
            self.assertEqual((station.array(), station.records), (array, records))
            self.assertIs(shows_picture_of(array, records, station.picture()), True)
            self.assertEqual(len(station.ghosts()), len(ghosts(array)))
            self.assertIs(shows_ghosts(array, station.ghosts()), True)

    def test_methods_tell_none(self):
        station = Station(LINE)
        self.assertIsNone(station.put("a", (1,)))
        self.assertIsNone(station.hear("a", 0, (ONE, ONE)))
        self.assertIsNone(station.unhear("a", 1, 1))
        self.assertIsNone(station.take("a"))

    def test_by_name(self):
        station = Station(ways=LINE)
        station.put(place=(1,), name="a")
        station.hear(worths=(ONE, ONE), first=3, name="a")
        station.unhear(last=3, first=-4, name="a")
        self.assertEqual((station.records, station.holes(name="a")), (((4, (ONE,)),), ()))
        station.take(name="a")
        self.assertEqual(station.ears, ())

    def test_new_stations(self):
        for ways in LOTS_OF_WAYS:
            station = Station(ways)
            self.assertEqual((station.ways, station.ears, station.ready, station.records, station.work), (ways, (), (), (), 0))


class PiecesTest(unittest.TestCase):

    def setUp(self):
        self.station = station_of(LINE, ("a", (1,), 5, (1, 2, 3)))

    def test_pieces_that_meet(self):
        for first, many, moment in ((5, 1, 5), (7, 1, 7), (4, 2, 5), (0, 10, 5), (6, 5, 6), (7, 9, 7), (-30, 40, 5)):
            before = log_of(self.station)
            assert_refused(self, Told, moment, self.station.hear, "a", first, (ONE,) * many)
            self.assertEqual(log_of(self.station), before)

    def test_the_least_moment_of_several(self):
        self.station.hear("a", 1, (ONE,))
        self.station.hear("a", -3, (ONE,))
        assert_refused(self, Told, -3, self.station.hear, "a", -4, (ONE,) * 12)
        assert_refused(self, Told, 1, self.station.hear, "a", -2, (ONE,) * 12)
        assert_refused(self, Told, 5, self.station.hear, "a", 2, (ONE,) * 12)
        self.station.hear("a", -2, (ONE,) * 3)
        self.assertEqual(self.station.holes("a"), (2, 3, 4))

    def test_pieces_that_touch(self):
        self.station.hear("a", 8, ((4, 1),))
        self.station.hear("a", 3, ((-1, 2), (0, 1)))
        self.assertEqual((self.station.ready, self.station.holes("a")), (("a",), ()))
        self.assertEqual(self.station.records, ((3, ((-1, 2), (0, 1), (1, 1), (2, 1), (3, 1), (4, 1))),))

    def test_pieces_far_apart(self):
        self.station.hear("a", 1000, (ONE,) * 40)
        self.assertEqual((self.station.ready, self.station.records), ((), ()))
        self.assertEqual(self.station.holes("a"), tuple(range(8, 1000)))
        self.station.hear("a", -1000, (ONE,))
        self.assertEqual(len(self.station.holes("a")), 992 + 1004)
        self.station.unhear("a", -1000, 999)
        self.assertEqual((self.station.ready, self.station.holes("a")), (("a",), ()))
        self.assertEqual(self.station.records, ((1000, (ONE,) * 40),))

    def test_taken_back_from_the_middle(self):
        self.station.unhear("a", 6, 6)
        self.assertEqual((self.station.holes("a"), self.station.ready, self.station.records), ((6,), (), ()))
        self.station.hear("a", 6, ((9, 1),))
        self.assertEqual(self.station.records, ((5, ((1, 1), (9, 1), (3, 1))),))

    def test_taken_back_at_the_ends_and_beyond(self):
        self.station.unhear("a", -1000, 5)
        self.assertEqual(self.station.records, ((6, ((2, 1), (3, 1))),))
        self.station.unhear("a", 7, 1000)
        self.assertEqual(self.station.records, ((6, ((2, 1),)),))
        self.station.unhear("a", 7, 9)
        self.station.unhear("a", 0, 0)
        self.assertEqual(self.station.records, ((6, ((2, 1),)),))
        self.station.unhear("a", -1000, 1000)
        self.assertEqual((self.station.ready, self.station.holes("a"), self.station.ears), ((), (), (("a", (1,)),)))

    def test_noughts_are_told_too(self):
        station = station_of(LINE, ("a", (0,), 4, (0, 0)), ("b", (1,), 0, ()))
        self.assertEqual((station.ready, station.records), (("a",), (NOTHING,)))
        self.assertEqual(station.picture(), (NOTHING, NOTHING))
        assert_refused(self, Told, 5, station.hear, "a", 5, (ONE,))
        station.hear("a", 8, ((0, 1), ONE, (0, 1)))
        self.assertEqual((station.ready, station.holes("a")), ((), (6, 7)))
        station.hear("a", 6, ((0, 1), (2, 1)))
        self.assertEqual(station.records, ((7, ((2, 1), (0, 1), (1, 1))),))

    def test_to_the_bounds(self):
        station = station_of(LINE, ("a", (0,), 0, ()))
        station.hear("a", -1000, (ONE,) * 40)
        station.hear("a", -960, ((0, 1),) * 39 + (ONE,))
        self.assertEqual(station.records, ((-1000, (ONE,) * 40 + ((0, 1),) * 39 + (ONE,)),))
        station.unhear("a", -1000, -1000)
        station.unhear("a", -999, 1000)
        self.assertEqual(station.ready, ())


class EarsTest(unittest.TestCase):

    def test_taken_and_put_again(self):
        station = station_of(PLANE, ("b", (2, 0), 2, (1, 2)), ("a", (0, 0), 0, (1, 2)))
        station.take("a")
        self.assertEqual((station.ears, station.ready), ((("b", (2, 0)),), ("b",)))
        station.put("a", (0, 5))
        self.assertEqual((station.ears, station.ready, station.holes("a")), ((("a", (0, 5)), ("b", (2, 0))), ("b",), ()))
        station.hear("a", 0, (ONE,))
        self.assertEqual(station.records, ((0, (ONE,)), (2, ((1, 1), (2, 1)))))

    def test_eight_ears(self):
        station = Station(LINE)
        for k, name in enumerate("hgfedcba"):
            station.put(name, (k,))
        self.assertEqual([name for name, _ in station.ears], list("abcdefgh"))
        self.assertEqual(outcome(station.put, "i", (0,)), ("Full", "i"))
        self.assertEqual(outcome(station.put, "a", (0,)), ("Taken", "a"))
        station.take("d")
        station.put("i", (0,))
        self.assertEqual(outcome(station.put, "d", (0,)), ("Full", "d"))

    def test_names_ascend_as_python_sorts(self):
        station = Station(LINE)
        for name in ("b", "a10", "a2", "a", "ab"):
            station.put(name, (0,))
        self.assertEqual([name for name, _ in station.ears], ["a", "a10", "a2", "ab", "b"])

    def test_ears_at_one_place(self):
        station = station_of(LINE, ("a", (1,), 0, (1,)), ("b", (1,), 0, (1,)))
        self.assertIsNotNone(station.picture())
        self.assertEqual(station.work, 2)
        station.take("a")
        self.assertIsNotNone(station.picture())
        self.assertEqual(station.work, 2)


class WorkTest(unittest.TestCase):

    def setUp(self):
        self.station = station_of(LINE, ("b", (0,), 0, (1, 2)), ("d", (1,), 0, (1, 2)))

    def test_asks_that_raise_use_none(self):
        station = station_of(LINE, ("a", (0,), 0, ()))
        for look in (station.array, station.picture, station.ghosts):
            assert_refused(self, NoneReady, None, look)
        self.assertEqual(station.work, 0)

    def test_deeds_and_what_else_is_told_use_none(self):
        self.station.array(), self.station.holes("b"), self.station.copy(), self.station == self.station
        self.assertEqual((self.station.work, self.station.ready), (0, ("b", "d")))

    def test_the_same_again(self):
        for _ in range(3):
            self.station.picture(), self.station.ghosts()
            self.assertEqual(self.station.work, 2)
        self.station.unhear("d", 0, 0)
        self.station.picture()
        self.assertEqual(self.station.work, 2)

    def test_one_that_gets_ready_last(self):
        self.station.picture()
        self.station.put("x", (3,))
        self.station.ghosts()
        self.assertEqual(self.station.work, 2)
        self.station.hear("x", 0, (ONE,))
        self.station.ghosts()
        self.assertEqual(self.station.work, 3)

    def test_one_that_gets_ready_first(self):
        self.station.ghosts()
        self.station.put("a", (3,))
        self.station.hear("a", 0, (ONE,))
        self.assertEqual(self.station.work, 2)
        self.station.picture()
        self.assertEqual(self.station.work, 5)
        self.station.take("a")
        self.station.picture()
        self.assertEqual(self.station.work, 5)

    def test_one_between(self):
        self.station.ghosts()
        self.station.put("c", (3,))
        self.station.hear("c", 0, (ONE,))
        self.station.picture()
        self.assertEqual(self.station.work, 4)

    def test_one_with_a_hole_is_none(self):
        self.station.hear("b", 5, (ONE,))
        self.station.picture()
        self.assertEqual(self.station.work, 1)
        self.station.hear("b", 2, (ONE,) * 3)
        self.station.picture()
        self.assertEqual(self.station.work, 3)

    def test_told_by_places_not_by_names(self):
        self.station.picture()
        self.station.take("b"), self.station.take("d")
        for name, place in (("x", (1,)), ("w", (0,)), ("y", (2,))):
            self.station.put(name, place)
            self.station.hear(name, 0, (ONE,))
        self.station.ghosts()
        self.assertEqual(self.station.work, 3)

    def test_copy_keeps_what_was_kept(self):
        self.station.picture()
        other = self.station.copy()
        self.assertEqual(other.work, 2)
        other.picture()
        self.assertEqual(other.work, 2)
        other.put("e", (7,))
        other.hear("e", 0, (ONE,))
        other.ghosts()
        self.assertEqual((other.work, self.station.work), (3, 2))
        self.station.take("b")
        self.station.ghosts()
        other.take("b"), other.take("e")
        self.assertEqual((other.work, self.station.work), (3, 3))
        other.picture()
        self.assertEqual(other.work, 4)


class CopyTest(unittest.TestCase):

    def test_independent(self):
        source = random.Random(404)
        for ways in LOTS_OF_WAYS:
            station = Station(ways)
            for _ in range(30):
                word, arguments = random_deed(source, ways)
                outcome(getattr(station, word), *arguments)
                before, other = log_of(station), station.copy()
                self.assertEqual((log_of(other), other == station), (before, True))
                for _ in range(3):
                    word, arguments = random_deed(source, ways)
                    outcome(getattr(other, word), *arguments)
                self.assertEqual(log_of(station), before)
                kept = log_of(other)
                third = station.copy()
                outcome(station.take, "a")
                self.assertEqual(log_of(other), kept)
                station = third

    def test_of_none_yet(self):
        other = Station(LINE).copy()
        self.assertEqual((other == Station(LINE), other.work), (True, 0))


class EqualityTest(unittest.TestCase):

    def test_told_in_another_sequence(self):
        ears = (("a", (0,), 2, (1, 2)), ("b", (1,), 0, ()), ("c", (2,), -3, (0, 5)))
        first = station_of(LINE, *ears)
        for sequence in itertools.permutations(ears):
            self.assertEqual(station_of(LINE, *sequence), first)
        other = station_of(LINE, ears[1], ears[2])
        other.put("a", (0,))
        other.hear("a", 3, ((2, 1), (7, 1)))
        self.assertNotEqual(other, first)
        other.hear("a", 2, (ONE,))
        self.assertNotEqual(other, first)
        other.unhear("a", 4, 4)
        self.assertEqual(other, first)
        other.picture()
        self.assertEqual((other, first.work), (first, 0))

    def test_near_ones(self):
        first = station_of(LINE, ("a", (0,), 2, (1, 2)))
        for other in (
            Station(LINE), station_of(LINE, ("a", (1,), 2, (1, 2))), station_of(LINE, ("b", (0,), 2, (1, 2))),
            station_of(LINE, ("a", (0,), 2, (1,))), station_of(LINE, ("a", (0,), 3, (1, 2))), station_of(LINE, ("a", (0,), 2, (1, 3))),
            station_of(LINE, ("a", (0,), 2, (1, 2, 0))), station_of(LINE, ("a", (0,), 1, (0, 1, 2))), station_of(LINE, ("a", (0,), 0, ())),
            station_of(((1,), (0,)), ("a", (0,), 2, (1, 2))), station_of(LINE, ("a", (0,), 2, (1, 2)), ("b", (0,), 0, ())),
        ):
            self.assertIs(first == other, False)
            self.assertIs(first != other, True)

    def test_ready_in_another_way_but_the_same_told(self):
        one, other = station_of(LINE, ("a", (0,), 0, (1,))), station_of(LINE, ("a", (0,), 0, (1, 5, 1)))
        other.unhear("a", 1, 2)
        self.assertEqual(one, other)

    def test_other_values(self):
        station = Station(LINE)
        for value in (None, True, 0, "", (), [], {}, LINE, Thing(), Array((("a", (0,)),), LINE), station.ways, Station):
            self.assertIs(station == value, False)
            self.assertIs(station != value, True)
            self.assertIs(value == station, False)

    def test_no_other_operators(self):
        station = Station(LINE)
        for value in (station, Station(LINE), 1, (), None):
            for look in (lambda: station < value, lambda: station + value, lambda: value - station, lambda: station >= value):
                self.assertRaises(TypeError, look)
        self.assertRaises(TypeError, lambda: len(station))


class LateTest(unittest.TestCase):

    def test_all_from_nothing(self):
        """What a Station tells after many deeds is what a new one tells that is told just what stands."""
        source = random.Random(405)
        for ways in LOTS_OF_WAYS * 2:
            station = Station(ways)
            for _ in range(80):
                word, arguments = random_deed(source, ways)
                outcome(getattr(station, word), *arguments)
                if station.ready and source.random() < 0.2:
                    station.picture()
            fresh = Station(ways)
            for name, place in station.ears[::-1]:
                fresh.put(name, place)
            for name, row in zip(station.ready, station.records):
                self.assertEqual(outcome(fresh.hear, name, row[0] or -1, random_worths(source)), None)
                fresh.unhear(name, -1000, 1000)
                if row[1]:
                    fresh.hear(name, row[0], row[1])
                else:
                    fresh.hear(name, 5, ((0, 1),))
            self.assertEqual((fresh.ears, fresh.ready, fresh.records), (station.ears, station.ready, station.records))
            if station.ready:
                self.assertEqual(fresh.array(), station.array())
                self.assertIs(fresh.picture() is None, station.picture() is None)
                self.assertIs(shows_ghosts(station.array(), fresh.ghosts()), True)
                self.assertIs(shows_ghosts(fresh.array(), station.ghosts()), True)
                for ghost in station.ghosts():
                    self.assertIs(is_ghost(fresh.array(), ghost), True)
                self.assertIs(picture_of(station.array(), station.records) is None, station.picture() is None)

    def test_errors_are_ear_errors(self):
        self.assertTrue(issubclass(NoneReady, EarError) and issubclass(Told, EarError))

    def test_known_ones(self):
        station = station_of(PLANE, ("b", (2, 0), 2, (1, 2)), ("a", (0, 0), 0, (1, 2)))
        self.assertEqual(station.picture(), (whole_row(0, 1, 2), NOTHING))
        station.put("c", (0, 3))
        station.hear("c", 0, (ONE,))
        self.assertIsNone(station.picture())
        station.hear("c", 1, ((2, 1),))
        self.assertEqual((station.picture(), station.ghosts(), station.work), ((whole_row(0, 1, 2), NOTHING), (), 3))


if __name__ == "__main__":
    unittest.main()
