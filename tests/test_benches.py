"""Benches: what section 16 tells of them, and what they refuse."""

import random
import unittest

from earstogether.benches import Bench
from earstogether.errors import (
    BadNumber, BadPlace, BadTask, BadWays, BadWorths, NoBlock, NoEar, NothingToRedo, NothingToUndo, Taken, Told,
)
from earstogether.journals import journal, read_journal
from earstogether.keeping import Station
from tests.keeping_support import line_of, log_of, outcome, random_deed
from tests.support import Thing, assert_refused, deep
from tests.test_array_refusals import bad_ways

LINE = ((0,), (1,))
PLANE = ((1, 0), (0, -1))

NO_STRINGS = (None, True, False, 0, 1, (), ("put a 0",), ["put a 0"], {"put a 0": 1}, b"put a 0", deep(tuple), deep(list), Thing())

# Lines of no form, whatever stands; those with NAMES and numbers that are none among them.
NO_DEEDS = (
    "", " ", "  ", "a", "0", "put", "put ", "put a", "put a ", "put 0", "put 0 0", "put  a 0", "put a  0", "put a 0 ", " put a 0", "put a 0 0 0 0",
    "put A 0", "put a_b 0", "put 1a 0", "put abcdefghi 0", "put a +1", "put a 01", "put a -0", "put a 00", "put a 1/2", "put a 1.0", "put a x",
    "put a 0 x", "put a 0 0 -", "put a --1", "put a 1_0", "put a 0\n", "\nput a 0", "put a\n0", "put a 0\nput b 0", "put\ta 0", "Put a 0", "PUT a 0",
    "put a 0,0", "put a (0)", "take", "take ", "take a b", "take a 0", "take  a", "take a ", " take a", "take A", "take 0", "take -", "Take a",
    "take a\n", "hear", "hear a", "hear a 0", "hear a 0 ", "hear a  0 1", "hear a 0  1", "hear a 0 1 ", " hear a 0 1", "hear A 0 1", "hear 0 0 1",
    "hear a +0 1", "hear a 01 1", "hear a -0 1", "hear a 1/2 1", "hear a x 1", "hear a 0 +1", "hear a 0 01", "hear a 0 -0", "hear a 0 2/4",
    "hear a 0 1/1", "hear a 0 2/1", "hear a 0 0/1", "hear a 0 1/0", "hear a 0 1/-2", "hear a 0 -1/-2", "hear a 0 1/02", "hear a 0 01/2", "hear a 0 1 /2",
    "hear a 0 1/2/3", "hear a 0 /2", "hear a 0 1/", "hear a 0 -", "hear a 0 x", "hear a 0 1 2 x", "hear a 0 1 2 4/6 1", "hear a 0: 1", "hear a 0 0/2",
    "hear a 0 1\n", "hear a 0 1\n2", "hear a 0 1.5", "unhear", "unhear a", "unhear a 0", "unhear a 0 1 2", "unhear a 0 1 ", "unhear  a 0 1",
    "unhear a  0 1", "unhear A 0 1", "unhear a +0 1", "unhear a 0 +1", "unhear a 00 1", "unhear a 0 01", "unhear a -0 1", "unhear a 0 -0", "unhear a 0 1/2",
    "unhear a 1/2 1", "unhear a x y", "unhear a 0\n1", "undo a 0", "give a 0", "deeds", "way 1", "hearing a 0 1", "puta 0", "put a0", "- a 0",
)

# What only a desk knows.
NO_DEEDS_BUT_LINES = ("undo", "redo", "holes a", "ready", "fits", "ghosts", "told 0", "row 0")


def bench_of(ways, *lines):
    bench = Bench(ways)
    for line in lines:
        bench.do(line)
    return bench


def log(bench):
    """All that a bench tells of itself, and what undo and redo would leave."""
    back, again = bench.copy(), bench.copy()
    while outcome(back.undo) is None:
        pass
    forth = [journal(again)]
    while outcome(again.redo) is None:
        forth.append(journal(again))
    return (bench.ways, bench.deeds, len(bench), journal(bench), log_of(bench.station()), journal(back), forth)


class SlowBench:
    """A bench as two lists of lines, all from nothing each time."""

    def __init__(self, ways):
        self.ways, self.done, self.undone = ways, [], []

    def station(self):
        station = Station(self.ways)
        for word, arguments in self.done:
            getattr(station, word)(*arguments)
        return station

    def do(self, deed):
        told = outcome(getattr(self.station(), deed[0]), *deed[1])
        if told is None:
            self.done.append(deed)
            self.undone = []
        return told

    def undo(self):
        if not self.done:
            return ("NothingToUndo", None)
        self.undone.append(self.done.pop())

    def redo(self):
        if not self.undone:
            return ("NothingToRedo", None)
        self.done.append(self.undone.pop())


class DoTest(unittest.TestCase):

    def test_each_form(self):
        bench = Bench(PLANE)
        self.assertIsNone(bench.do("put a 0 0"))
        self.assertIsNone(bench.do(line="hear a -3 1 -1/2 0 999999999/1000"))
        self.assertEqual(bench.station().records, ((-3, ((1, 1), (-1, 2), (0, 1), (999999999, 1000))),))
        self.assertIsNone(bench.do("unhear a -1 0"))
        self.assertEqual(bench.station().records, ((-3, ((1, 1), (-1, 2))),))
        self.assertIsNone(bench.do("put zz9 -10 10"))
        self.assertEqual((bench.station().ears, len(bench), bench.deeds), ((("a", (0, 0)), ("zz9", (-10, 10))), 2, 4))
        self.assertIsNone(bench.do("take a"))
        self.assertEqual((bench.station().ears, len(bench), bench.deeds), ((("zz9", (-10, 10)),), 1, 5))

    def test_places_of_one_two_and_three(self):
        for ways, line in ((((1,),), "put a -7"), (PLANE, "put a 1 -2"), (((0, 0, 1),), "put a 1 2 3")):
            bench = bench_of(ways, line)
            self.assertEqual(bench.station().ears, (("a", tuple([int(word) for word in line.split()[2:]])),))

    def test_lines_of_no_form(self):
        for bench in (Bench(LINE), bench_of(LINE, "put a 0", "put b 1", "hear b 0 1")):
            before = log(bench)
            for line in NO_DEEDS + NO_DEEDS_BUT_LINES + NO_STRINGS:
                assert_refused(self, BadTask, line, bench.do, line)
                assert_refused(self, BadTask, line, bench.do, line=line)
            self.assertEqual(log(bench), before)

    def test_what_the_station_raises(self):
        bench = bench_of(LINE, "put a 0", "hear a 0 1 2")
        before = log(bench)
        for line, error, value in (
            ("put a 1", Taken, "a"), ("put b 11", BadPlace, (11,)), ("put b 0 0", BadPlace, (0, 0)), ("put b 1 2 3", BadPlace, (1, 2, 3)),
            ("put a -11", BadPlace, (-11,)), ("take b", NoEar, "b"), ("hear b 0 1", NoEar, "b"), ("hear a 1001 1", BadNumber, 1001),
            ("hear a -1001 1", BadNumber, -1001), ("hear a 0" + " 1" * 41, BadWorths, ((1, 1),) * 41), ("hear a -3 1 1 1 1 1", Told, 0),
            ("hear a 1 5", Told, 1), ("unhear b 0 0", NoEar, "b"), ("unhear a 2000 1", BadNumber, 2000), ("unhear a 1 2000", BadNumber, 2000),
            ("unhear a 1 0", BadNumber, 0), ("hear b 1001" + " 1" * 41, NoEar, "b"), ("hear a 1001" + " 1" * 41, BadNumber, 1001),
        ):
            with self.assertRaises(error) as caught:
                bench.do(line)
            self.assertEqual((type(caught.exception), repr(caught.exception.value)), (error, repr(value)))
            self.assertEqual(log(bench), before)
        for name in "bcdefgh":
            bench.do(f"put {name} 0")
        self.assertEqual(outcome(bench.do, "put i 0"), ("Full", "i"))
        self.assertEqual(outcome(bench.do, "put I 0"), ("BadTask", "put I 0"))

    def test_ways(self):
        for ways in bad_ways():
            if ways not in (((1,),), ((1, 0, 0),), ((1,), (2,), (3,)), ((1, 1, 1), (0, 0, 0))):
                assert_refused(self, BadWays, ways, Bench, ways)
                assert_refused(self, BadWays, ways, Bench, ways=ways)

    def test_station_by_itself(self):
        bench = bench_of(LINE, "put a 0", "hear a 0 1", "put b 1", "hear b 0 1")
        station = bench.station()
        self.assertEqual((station.work, station.picture() is None, station.work), (0, False, 2))
        self.assertEqual(bench.station().work, 0)
        station.take("a")
        self.assertEqual((len(bench), len(bench.station().ears)), (2, 2))
        bench.do("take b")
        self.assertEqual(station.ears, (("b", (1,)),))
        self.assertNotEqual(bench.station(), station)


class UndoTest(unittest.TestCase):

    def test_beside_a_slow_one(self):
        source = random.Random(511)
        seen = {}
        for ways in (LINE, PLANE) * 6:
            bench, slow = Bench(ways), SlowBench(ways)
            for _ in range(60):
                word = source.choice(("do", "do", "do", "undo", "redo"))
                deed = random_deed(source, ways)
                if word == "do":
                    told, want = outcome(bench.do, line_of(*deed)), slow.do(deed)
                else:
                    told, want = outcome(getattr(bench, word)), getattr(slow, word)()
                self.assertEqual(told, want)
                seen[(word, told and told[0])] = seen.get((word, told and told[0]), 0) + 1
                self.assertEqual(bench.station(), slow.station())
                self.assertEqual((bench.deeds, len(bench)), (len(slow.done), len(slow.station().ears)))
                self.assertEqual(journal(bench).split("\n")[len(ways) + 1:], [line_of(*deed) for deed in slow.done])
        for key in (("undo", None), ("redo", None), ("redo", "NothingToRedo"), ("do", None), ("do", "Told"), ("do", "NoEar")):
            self.assertGreater(seen[key], 10, seen)

    def test_nothing(self):
        bench = Bench(LINE)
        assert_refused(self, NothingToUndo, None, bench.undo)
        assert_refused(self, NothingToRedo, None, bench.redo)
        bench.do("put a 0")
        assert_refused(self, NothingToRedo, None, bench.redo)
        self.assertIsNone(bench.undo())
        assert_refused(self, NothingToUndo, None, bench.undo)
        self.assertIsNone(bench.redo())
        assert_refused(self, NothingToRedo, None, bench.redo)
        self.assertEqual((bench.deeds, len(bench)), (1, 1))

    def test_a_refused_deed_is_none(self):
        bench = bench_of(LINE, "put a 0", "put b 1")
        bench.undo()
        for line in ("put a 0", "take z", "nonsense", None, "put b 0 0"):
            self.assertIsNotNone(outcome(bench.do, line))
        bench.redo()
        self.assertEqual(bench.deeds, 2)

    def test_another_deed_ends_redo(self):
        bench = bench_of(LINE, "put a 0", "put b 1")
        bench.undo(), bench.undo()
        bench.do("put a 5")
        assert_refused(self, NothingToRedo, None, bench.redo)
        self.assertEqual(journal(bench), "way 0\nway 1\ndeeds\nput a 5")

    def test_an_ear_with_all_that_was_told(self):
        bench = bench_of(LINE, "put a 0", "hear a 0 1 2 3", "unhear a 1 1", "take a", "put a 7")
        bench.undo(), bench.undo()
        self.assertEqual((bench.station().ears, bench.station().holes("a")), ((("a", (0,)),), (1,)))
        bench.undo()
        self.assertEqual(bench.station().records, ((0, ((1, 1), (2, 1), (3, 1))),))
        bench.redo(), bench.redo(), bench.redo()
        self.assertEqual(bench.station().ears, (("a", (7,)),))


class TriedTest(unittest.TestCase):

    def setUp(self):
        self.bench = bench_of(LINE, "put a 0", "hear a 0 1", "put b 1", "put c 2")
        self.bench.undo()
        self.before = log(self.bench)

    def same(self):
        self.assertEqual(log(self.bench), self.before)

    def test_called_with_the_bench_and_returns_what_look_tells(self):
        seen = []
        value = [Thing()]
        for more in ({}, {"keep": True}, {"keep": False}):
            self.assertIs(self.bench.tried(lambda bench: seen.append(bench) or value, **more), value)
        self.assertEqual([one is self.bench for one in seen], [True] * 3)
        self.assertIsNone(self.bench.tried(look=lambda bench: None))
        self.same()

    def test_not_kept(self):
        for line in ("take a", "hear b 0 1", "unhear a 0 0", "put d 4"):
            self.assertIsNone(self.bench.tried(lambda bench: bench.do(line)))
            self.same()
        self.bench.redo()
        self.assertEqual(self.bench.deeds, 4)

    def test_kept_by_keep(self):
        self.bench.tried(lambda bench: bench.do("put d 4"), keep=True)
        self.assertEqual((self.bench.deeds, len(self.bench)), (4, 3))
        assert_refused(self, NothingToRedo, None, self.bench.redo)
        self.bench.undo(), self.bench.undo()
        self.assertEqual(journal(self.bench).split("\n")[2:], ["deeds", "put a 0", "hear a 0 1"])

    def test_kept_by_bench_keep(self):
        def first(bench):
            self.assertIsNone(bench.keep())
            bench.do("put d 4")

        def last(bench):
            bench.do("put e 4")
            bench.keep(), bench.keep()

        self.bench.tried(first)
        self.assertEqual(len(self.bench), 3)
        self.bench.tried(last, keep=False)
        self.assertEqual((len(self.bench), self.bench.deeds), (4, 5))

    def test_other_values_of_keep(self):
        for value in (None, 1, 0, "True", "", (True,), [True], {True: True}, Thing(), deep(list), self.bench, object()):
            self.bench.tried(lambda bench: bench.do("take a"), keep=value)
            self.same()

    def test_keep_is_passed_by_name(self):
        self.assertRaises(TypeError, self.bench.tried, lambda bench: bench.do("take a"), True)
        self.same()

    def test_errors(self):
        class Other(Exception):
            pass

        for error in (Other("x"), KeyError(1), BadTask("y"), NoEar("z"), KeyboardInterrupt(), SystemExit(3), StopIteration()):
            def look(bench):
                bench.do("take a")
                bench.keep()
                raise error

            for more in ({}, {"keep": True}):
                with self.assertRaises(type(error)) as caught:
                    self.bench.tried(look, **more)
                self.assertIs(caught.exception, error)
                self.same()
                assert_refused(self, NoBlock, None, self.bench.keep)

    def test_an_error_that_look_catches_is_none(self):
        def look(bench):
            bench.do("put d 5")
            return outcome(bench.do, "put d 5")

        self.assertEqual(self.bench.tried(look, keep=True), ("Taken", "d"))
        self.assertEqual(len(self.bench), 3)

    def test_no_block_outside(self):
        assert_refused(self, NoBlock, None, self.bench.keep)
        self.bench.tried(lambda bench: bench.keep())
        assert_refused(self, NoBlock, None, self.bench.keep)
        self.bench.tried(lambda bench: None, keep=True)
        assert_refused(self, NoBlock, None, self.bench.keep)
        self.same()

    def test_undo_goes_on_to_what_was_done_ahead(self):
        def look(bench):
            bench.redo()
            bench.undo(), bench.undo(), bench.undo()
            bench.do("put z 9")
            return journal(bench)

        want = "way 0\nway 1\ndeeds\nput a 0\nput z 9"
        self.assertEqual(self.bench.tried(look), want)
        self.same()
        self.assertEqual(self.bench.tried(look, keep=True), want)
        self.assertEqual(journal(self.bench), want)
        assert_refused(self, NothingToRedo, None, self.bench.redo)
        self.bench.undo(), self.bench.undo()
        assert_refused(self, NothingToUndo, None, self.bench.undo)
        self.bench.redo(), self.bench.redo()
        self.assertEqual(journal(self.bench), want)

    def test_only_undone(self):
        self.bench.tried(lambda bench: bench.undo() or bench.undo())
        self.same()
        self.bench.tried(lambda bench: bench.undo() or bench.undo(), keep=True)
        self.bench.redo(), self.bench.redo(), self.bench.redo()
        self.assertEqual((self.bench.deeds, len(self.bench)), (4, 3))

    def test_trials_in_trials(self):
        def inner(bench):
            bench.do("put y 8")
            bench.keep()

        def outer(bench):
            bench.do("put x 7")
            bench.tried(inner)
            self.assertEqual(len(bench), 4)
            bench.tried(lambda bench: bench.do("take a"))
            self.assertEqual(len(bench), 4)
            return len(bench)

        self.assertEqual(self.bench.tried(outer), 4)
        self.same()
        self.assertEqual(self.bench.tried(outer, keep=True), 4)
        self.assertEqual(journal(self.bench).split("\n")[-2:], ["put x 7", "put y 8"])

    def test_keep_of_an_outer_one_behind_an_inner_one(self):
        def outer(bench):
            bench.do("put x 7")
            bench.tried(lambda bench: bench.do("put y 8"))
            bench.keep()
            bench.tried(lambda bench: bench.do("put z 8"))

        self.bench.tried(outer)
        self.assertEqual(journal(self.bench).split("\n")[-1], "put x 7")
        self.assertEqual(len(self.bench), 3)

    def test_an_error_within_an_inner_one(self):
        def inner(bench):
            bench.do("put y 8")
            bench.keep()
            bench.do("put y 8")

        def outer(bench):
            bench.do("put x 7")
            told = outcome(bench.tried, inner)
            bench.keep()
            return told

        self.assertEqual(self.bench.tried(outer), ("Taken", "y"))
        self.assertEqual(journal(self.bench).split("\n")[-1], "put x 7")

    def test_any_trials_beside_copies(self):
        source = random.Random(512)
        for ways in (LINE, PLANE) * 4:
            bench = Bench(ways)
            for _ in range(25):
                deeds = [random_deed(source, ways) for _ in range(source.randint(0, 4))]
                words = [source.choice(("do", "undo", "redo")) for _ in deeds]
                other, keep, fails = bench.copy(), source.random() < 0.5, source.random() < 0.2

                def play(one):
                    for word, deed in zip(words, deeds):
                        outcome(one.do, line_of(*deed)) if word == "do" else outcome(getattr(one, word))

                def look(one):
                    play(one)
                    if fails:
                        raise Told(0)
                    one.tried(play)

                outcome(lambda: bench.tried(look, keep=keep))
                if keep and not fails:
                    play(other)
                self.assertEqual(log(bench), log(other))


class CopyTest(unittest.TestCase):

    def test_independent(self):
        source = random.Random(513)
        for ways in (LINE, PLANE) * 3:
            bench = Bench(ways)
            for _ in range(25):
                outcome(source.choice((bench.undo, bench.redo, lambda: bench.do(line_of(*random_deed(source, ways))))))
                outcome(bench.do, line_of(*random_deed(source, ways)))
                before, other = log(bench), bench.copy()
                self.assertEqual((log(other), other == bench, type(other)), (before, True, Bench))
                outcome(other.do, line_of(*random_deed(source, ways)))
                outcome(other.undo), outcome(other.undo)
                self.assertEqual(log(bench), before)
                kept = log(other)
                outcome(bench.undo)
                self.assertEqual(log(other), kept)

    def test_within_a_trial(self):
        bench = bench_of(LINE, "put a 0")
        copies = []

        def look(one):
            one.do("put b 1")
            copies.append(one.copy())
            assert_refused(self, NoBlock, None, copies[0].keep)
            copies[0].do("put c 2")
            one.tried(lambda inner: copies.append(inner.copy()))

        bench.tried(look)
        self.assertEqual([len(one) for one in (bench, *copies)], [1, 3, 2])
        self.assertEqual([one.deeds for one in copies], [3, 2])
        for one in copies:
            assert_refused(self, NoBlock, None, one.keep)
            one.undo()
        self.assertEqual([len(one) for one in (bench, *copies)], [1, 2, 1])


class EqualityTest(unittest.TestCase):

    def test_by_journals(self):
        one, other = bench_of(LINE, "put a 0", "put b 1"), bench_of(LINE, "put b 1", "put a 0")
        self.assertIs(one == other, False)
        self.assertIs(one != other, True)
        self.assertEqual(one.station(), other.station())
        third = bench_of(LINE, "put a 0", "put b 1", "put c 1")
        self.assertIs(third == one, False)
        third.undo()
        self.assertIs(third == one, True)
        self.assertIs(third != one, False)
        self.assertIs(Bench(LINE) == Bench(LINE), True)
        self.assertIs(Bench(LINE) == Bench(LINE[::-1]), False)
        self.assertIs(Bench(LINE) == Bench(((0,), (1,), (2,))), False)
        self.assertIs(read_journal(journal(one)) == one, True)

    def test_other_values(self):
        bench = Bench(LINE)
        for value in (None, True, 0, "", journal(bench), (), [], {}, LINE, Thing(), bench.station(), Bench):
            self.assertIs(bench == value, False)
            self.assertIs(bench != value, True)
            self.assertIs(value == bench, False)

    def test_no_other_operators(self):
        bench = Bench(LINE)
        for value in (bench, Bench(LINE), 1, (), None):
            for look in (lambda: bench < value, lambda: bench + value, lambda: value * bench, lambda: bench >= value):
                self.assertRaises(TypeError, look)


if __name__ == "__main__":
    unittest.main()
