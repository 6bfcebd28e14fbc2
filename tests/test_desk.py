"""Journals and desks: what section 16 tells of them, and what they refuse."""

import random
import unittest

from earstogether.arrays import heard
from earstogether.benches import Bench
from earstogether.desk import Desk
from earstogether.errors import (
    BadJournal, BadNumber, BadTask, NoEar, NoneReady, NothingToRedo, NothingToUndo, Taken, Told,
)
from earstogether.journals import journal, read_journal
from earstogether.pictures import is_all_told, picture_of, told
from earstogether.rows import row_text
from tests.array_support import heard_slowly, random_array, random_picture
from tests.keeping_support import NAMES, line_of, outcome, random_deed
from tests.support import Thing, assert_refused, deep
from tests.test_benches import LINE, NO_DEEDS, NO_STRINGS, PLANE, bench_of

TEXT = "way 1 0\nway 0 -1\ndeeds\nput a 0 0\nhear a 0 1 2 0 0 0 -1/2\nput b 2 0\nhear b 2 1 2 0 -1/2"
LINES = tuple(TEXT.split("\n"))

NOTHING = (0, ())


def random_bench(source, ways, many=30):
    bench = Bench(ways)
    for _ in range(many):
        outcome(bench.do, line_of(*random_deed(source, ways)))
        if source.random() < 0.1:
            outcome(bench.undo)
    return bench


class JournalTest(unittest.TestCase):

    def bad(self, number, text):
        with self.assertRaises(BadJournal) as caught:
            read_journal(text)
        self.assertEqual((type(caught.exception.value), caught.exception.value), (int, number), text)
        self.assertEqual(outcome(Desk, text), ("BadJournal", number))

    def test_there_and_back(self):
        source = random.Random(521)
        for ways in (LINE, PLANE, ((-3,),), ((0, 0, 0), (3, -3, 1), (1, 0, 0))) * 3:
            bench = random_bench(source, ways)
            text = journal(bench)
            again = read_journal(text)
            self.assertEqual((type(again), again == bench, journal(again)), (Bench, True, text))
            self.assertEqual((again.station(), again.deeds, len(again)), (bench.station(), bench.deeds, len(bench)))
            self.assertEqual(outcome(again.redo), ("NothingToRedo", None))
            while bench.deeds:
                self.assertEqual([outcome(again.undo), outcome(bench.undo)], [None, None])
                self.assertEqual(again, bench)

    def test_known_ones(self):
        self.assertEqual(journal(Bench(LINE)), "way 0\nway 1\ndeeds")
        self.assertEqual(journal(bench=Bench(PLANE)), "way 1 0\nway 0 -1\ndeeds")
        bench = bench_of(PLANE, *LINES[3:])
        self.assertEqual(journal(bench), TEXT)
        bench.undo()
        self.assertEqual(journal(bench), "\n".join(LINES[:-1]))
        self.assertEqual(read_journal(text=TEXT).station().ready, ("a", "b"))
        self.assertEqual(read_journal("way 3 -3 0\ndeeds").ways, ((3, -3, 0),))
        self.assertEqual(len(read_journal("\n".join([f"way {k}" for k in range(-3, 3)] + ["deeds"])).ways), 6)

    def test_no_string(self):
        for value in (None, True, 0, 1, (), [], [TEXT], LINES, {TEXT: 1}, TEXT.encode(), deep(tuple), deep(list), Bench(LINE), Thing()):
            self.bad(0, value)
        self.assertRaises(BadJournal, read_journal, text=None)
        self.assertRaises(BadJournal, Desk, text=None)

    def test_no_signs_or_few(self):
        for number, text in (
            (1, ""), (1, "\n"), (1, "\n\n"), (1, " "), (1, "deeds"), (1, "deeds\nway 0"), (1, "put a 0"), (2, "way 0"), (3, "way 0\nway 1"),
            (2, "way 0\n"), (2, "way 0\n\ndeeds"), (3, "way 0\ndeeds\n"), (4, "way 0\ndeeds\nput a 0\n"), (1, "\nway 0\ndeeds"),
        ):
            self.bad(number, text)

    def test_ways_that_cannot_stand(self):
        for line in (
            "way", "way ", "way  0", "way 0 ", " way 0", "way 4", "way -4", "way 0 4", "way +1", "way 01", "way -0", "way 1/2", "way x", "way 0 0 0 0",
            "way 0,0", "Way 0", "ways 0", "way\t0", "deed", "deeds ", " deeds", "Deeds", "ear a 0", "hear a 0 1", "way 1 0 x",
        ):
            self.bad(1, line + "\nway 0\ndeeds")
            self.bad(2, "way 1\n" + line + "\ndeeds")
        for number, text in (
            (2, "way 0\nway 0\ndeeds"), (3, "way 0\nway 1\nway 0\ndeeds"), (2, "way 0\nway 0 1\ndeeds"), (2, "way 0 1\nway 1\ndeeds"),
            (2, "way 0 1\nway 1 0 0\ndeeds"), (7, "\n".join([f"way {k}" for k in range(-3, 4)]) + "\ndeeds"), (3, "way 0\ndeeds\nway 1"),
            (3, "way 0\ndeeds\ndeeds"),
        ):
            self.bad(number, text)

    def test_a_line_out_twice_or_exchanged(self):
        for number, lines in (
            (2, LINES[:1] * 7), (2, LINES[:1] + LINES), (3, LINES[:2] + LINES[1:]), (4, LINES[:3] + LINES[2:]), (5, LINES[:4] + LINES[3:]),
            (6, LINES[:5] + LINES[4:]), (7, LINES[:6] + LINES[5:]), (8, LINES + LINES[6:]), (3, LINES[:2] + LINES[3:]), (4, LINES[:3] + LINES[4:]),
            (6, LINES[:5] + LINES[6:]), (3, (LINES[0], LINES[1], LINES[3], LINES[2])), (4, (*LINES[:3], LINES[4], LINES[3])),
            (2, (LINES[0], LINES[3], LINES[1])), (3, LINES[:2]), (1, LINES[2:]),
        ):
            self.bad(number, "\n".join(lines))
        for lines in (LINES[1:], LINES[:4] + LINES[5:], LINES[:6], LINES[:3], (LINES[1], LINES[0], *LINES[2:]), (*LINES[:4], LINES[5], LINES[4], LINES[6])):
            text = "\n".join(lines)
            self.assertEqual(journal(read_journal(text)), text)

    def test_cut_off(self):
        """Each part of the text from its beginning: either it is a journal, or the last line, or one more, is told."""
        for end in range(len(TEXT)):
            text = TEXT[:end]
            many = len(text.split("\n"))
            if outcome(read_journal, text) == ("BadJournal", many + 1):
                self.assertLess(many, 3)
            elif outcome(read_journal, text) != ("BadJournal", many):
                self.assertEqual(journal(read_journal(text)), text)

    def test_deeds_that_would_be_refused(self):
        for line in (
            "put a 0 0", "put c 11 0", "put c 0", "take c", "hear c 0 1", "hear a 0 1", "hear a 2000 1", "hear a 50" + " 1" * 41, "unhear a 3 2",
            "unhear c 0 1", "unhear a 0 1001", "undo", "redo", "holes a", "ready", "fits", "ghosts", "told 0", "row 0", "deeds", "way 1 1", "",
        ):
            self.bad(8, TEXT + "\n" + line)
            self.bad(8, TEXT + "\n" + line + "\nput c 0 0\nnonsense")
        for line in [line for line in NO_DEEDS if "\n" not in line]:
            self.bad(4, "\n".join([*LINES[:3], line, *LINES[3:]]))
            self.bad(8, "\n".join([*LINES, line]))

    def test_words_otherwise(self):
        source = random.Random(522)
        for _ in range(200):
            at = source.randrange(len(TEXT))
            text = TEXT[:at] + source.choice("x 019-/\n") + TEXT[at + 1:]
            told = outcome(read_journal, text)
            if type(told) is tuple:
                self.assertEqual(told[0], "BadJournal")
                self.assertTrue(1 <= told[1] <= len(text.split("\n")) + 1)
            else:
                self.assertEqual(journal(told), text)


class DeskTest(unittest.TestCase):

    def setUp(self):
        self.desk = Desk(TEXT)

    def refused(self, error, value, line):
        before = journal(self.desk.bench)
        with self.assertRaises(error) as caught:
            self.desk.say(line)
        self.assertEqual((type(caught.exception), repr(caught.exception.value)), (error, repr(value)))
        self.assertEqual(journal(self.desk.bench), before)

    def says(self, *lines):
        return [self.desk.say(line) for line in lines]

    def test_deeds(self):
        self.assertEqual(self.says("put c 0 3", "hear c 0 1 2 -1/2", "unhear c 0 1", "take c"), ["done"] * 4)
        self.assertEqual((self.desk.bench.deeds, journal(self.desk.bench).split("\n")[-1]), (8, "take c"))
        self.assertEqual(self.desk.say(line="put d 0 3"), "done")
        for line, error, value in (("put a 0 0", Taken, "a"), ("take x", NoEar, "x"), ("hear a 3 1", Told, 3), ("unhear a 0 1001", BadNumber, 1001)):
            self.refused(error, value, line)

    def test_undo_and_redo(self):
        self.assertEqual(self.says("undo", "undo", "redo"), ["done"] * 3)
        self.assertEqual(journal(self.desk.bench), "\n".join(LINES[:6]))
        self.assertEqual(self.says("redo"), ["done"])
        self.refused(NothingToRedo, None, "redo")
        self.assertEqual(self.says(*["undo"] * 4), ["done"] * 4)
        self.refused(NothingToUndo, None, "undo")

    def test_holes(self):
        self.assertEqual(self.says("holes a", "hear a 9 1", "holes a", "unhear a 2 2", "holes a"), ["none", "done", "6 7 8", "done", "2 6 7 8"])
        self.assertEqual(self.says("put c 1 1", "holes c", "hear c -3 1", "hear c -1 1", "holes c", "hear c 1 5", "holes c"),
                         ["done", "none", "done", "done", "-2", "done", "-2 0"])
        self.refused(NoEar, "d", "holes d")

    def test_ready(self):
        self.assertEqual(self.says("ready", "unhear b 3 3", "ready", "unhear a 1 1", "ready", "undo", "ready"),
                         ["a b", "done", "a", "done", "none", "done", "a"])
        self.assertEqual(Desk("way 0\ndeeds").say("ready"), "none")

    def test_fits_and_ghosts(self):
        self.assertEqual(self.says("fits", "ghosts", "put c 0 3", "hear c 0 1 2 7", "fits", "ghosts"), ["yes", "0", "done", "done", "no", "0"])
        self.assertEqual(self.says("take a", "take c", "fits", "ghosts"), ["done", "done", "yes", "1"])

    def test_told_and_row(self):
        self.assertEqual(self.says("told 0", "told 1", "row 0", "row 1"), ["told", "told", "0: 1 2", "5: -1/2"])
        self.assertEqual(self.says("take b", "told 0", "told 1", "row 0", "row 1"), ["done", "up to 0: 1", "up to 0: 1", "open", "open"])
        self.assertEqual(self.says("put c 1 0", "hear c 0 1", "row 0", "row 1", "told 0"), ["done", "done", "none", "none", "told"])
        desk = Desk("way 0\nway 1\nway 2\ndeeds\nput a 0\nput b 1\nhear a 0 1\nhear b 0 1")
        self.assertEqual([desk.say(line) for line in ("told 1", "row 1", "ghosts", "fits")], ["up to 0: 1 1", "open", "1", "yes"])
        desk = Desk("way 0\nway 1\ndeeds\nput a 0\nput b 1\nhear a 0 0\nhear b 5 0")
        self.assertEqual([desk.say(line) for line in ("row 0", "row 1", "told 1")], ["-", "-", "told"])

    def test_some_told_and_others_open(self):
        desk = Desk("way 1 0\nway 1 1\nway 0 2\ndeeds\nput a 0 0\nput b 1 0\nhear a 0 1 0 0 5\nhear b 1 1 0 5")
        self.assertEqual([desk.say(f"told {way}") for way in range(3)], ["up to 0: 1", "up to 0: 1", "told"])
        self.assertEqual([desk.say(f"row {way}") for way in range(3)], ["open", "open", "3: 5"])

    def test_numbers_beyond_the_ways(self):
        for number in (2, 3, -1, 999999999, -999999999):
            self.refused(BadNumber, number, f"told {number}")
            self.refused(BadNumber, number, f"row {number}")

    def test_none_ready(self):
        self.desk = Desk("way 1 0\nway 0 -1\ndeeds\nput a 0 0\nhear a 0 1\nhear a 3 1")
        for line in ("fits", "ghosts", "told 0", "told 1", "told 2", "told -1", "row 0", "row 1"):
            self.refused(NoneReady, None, line)
        for number in (2, -1, 999):
            self.refused(BadNumber, number, f"row {number}")
        self.assertEqual(self.says("holes a", "ready"), ["1 2", "none"])

    def test_lines_of_no_form(self):
        for line in NO_DEEDS + NO_STRINGS + (
            "undo ", " undo", "undo 1", "Undo", "redo ", "redo a", "holes", "holes ", "holes A", "holes 0", "holes a b", "holes  a", "holes a ",
            "ready ", "ready a", " ready", "Ready", "fits ", "fits a", "ghosts 1", "ghosts ", "ghost", "told", "told ", "told a", "told +1", "told 01",
            "told -0", "told 1/2", "told 0 1", "told  0", "told 0 ", "row", "row ", "row a", "row +1", "row 00", "row -0", "row 1/2", "row 0 1", "row  0",
            "row 0 ", "ready\n", "\nready", "fits\nfits", "undo\n", "told 0\n", "holes a\n", "keep", "copy", "deeds", "journal", "way 1 0", "done", "none",
        ):
            assert_refused(self, BadTask, line, self.desk.say, line)
            assert_refused(self, BadTask, line, self.desk.say, line=line)
        self.assertEqual(journal(self.desk.bench), TEXT)

    def test_the_very_bench(self):
        bench = self.desk.bench
        self.assertIs(type(bench), Bench)
        bench.do("put c 0 3")
        bench.do("hear c 0 1 2 -1/2")
        self.assertEqual(self.says("ready", "fits", "undo", "ready"), ["a b c", "yes", "done", "a b"])
        self.assertIs(self.desk.bench, bench)
        self.assertEqual((bench.deeds, len(bench)), (5, 3))
        bench.redo()
        self.assertEqual(self.says("ready"), ["a b c"])
        self.assertEqual(outcome(bench.redo), ("NothingToRedo", None))
        self.desk.say("take a")
        self.assertEqual([name for name, _ in bench.station().ears], ["b", "c"])

    def test_within_trials(self):
        before = journal(self.desk.bench)
        told_by = self.desk.bench.tried(lambda bench: self.says("undo", "undo", "take a", "ready", "put x 1 1"))
        self.assertEqual((told_by, journal(self.desk.bench)), (["done", "done", "done", "none", "done"], before))
        self.desk.bench.tried(lambda bench: self.desk.say("take a"), keep=True)
        self.assertEqual(self.says("ready", "undo", "ready"), ["b", "done", "a b"])

    def test_two_desks_of_one_text(self):
        other = Desk(TEXT)
        other.say("take a")
        self.assertEqual((self.desk.say("ready"), other.say("ready")), ("a b", "b"))


class BesideFunctionsTest(unittest.TestCase):

    def test_answers_are_what_functions_tell(self):
        source = random.Random(523)
        seen = {}
        for _ in range(40):
            array = random_array(source, 4, 3)
            records = list(heard_slowly(array, random_picture(source, array, 3)))
            if source.random() < 0.3:
                records[0] = (0, ((7, 1), (1, 3)))
            desk = Desk("\n".join(["way " + " ".join([str(k) for k in way]) for way in array.ways] + ["deeds"]))
            for (name, place), (first, worths) in zip(array.ears, records):
                desk.say(line_of("put", (name, place)))
                desk.say(line_of("hear", (name, first, worths or ((0, 1),))))
            records = tuple(records)
            picture = picture_of(array, records)
            self.assertEqual(desk.say("ready"), " ".join(array.names))
            self.assertEqual(desk.say("fits"), "no" if picture is None else "yes")
            self.assertEqual(desk.say("ghosts") == "0", is_all_told(array))
            for way in range(len(array.ways)):
                word, *row = told(array, way)
                self.assertEqual(desk.say(f"told {way}"), " ".join([word, *[row_text(one) for one in row]]))
                answer = desk.say(f"row {way}")
                want = "none" if picture is None else "open" if row else row_text(picture[way])
                self.assertEqual(answer, want)
                seen[answer if answer in ("none", "open") else "row"] = True
            self.assertEqual(heard(array, picture) if picture else records, records)
        self.assertEqual(sorted(seen), ["none", "open", "row"])

    def test_any_lines_leave_what_the_bench_tells(self):
        source = random.Random(524)
        for ways in (LINE, PLANE) * 3:
            desk, bench = Desk(journal(Bench(ways))), Bench(ways)
            for _ in range(60):
                line = source.choice(("undo", "redo", line_of(*random_deed(source, ways)), line_of(*random_deed(source, ways))))
                told_by = outcome(desk.say, line)
                want = outcome(getattr(bench, line)) if line in ("undo", "redo") else outcome(bench.do, line)
                self.assertEqual(told_by, "done" if want is None else want)
                self.assertEqual(desk.bench, bench)
                name = source.choice(NAMES[:5])
                holes = outcome(bench.station().holes, name)
                standing = name in [one for one, _ in bench.station().ears]
                want = (" ".join([str(hole) for hole in holes]) or "none") if standing else holes
                self.assertEqual(outcome(desk.say, "holes " + name), want)


if __name__ == "__main__":
    unittest.main()
