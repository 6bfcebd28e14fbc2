"""Across the whole: guarantees (a) to (h) of section 3, each over several modules."""

import itertools
import random
import unittest

from earstogether.arrays import heard, matrix, read_array, read_records, records_text, without
from earstogether.benches import Bench
from earstogether.choirs import choirs, outcome, paper, shows_choirs, shows_paper
from earstogether.correlations import all_alike, correlation, form_of, pairs_with, rows_with, shared
from earstogether.desk import Desk
from earstogether.division import common, divided, is_multiple, plain
from earstogether.drawings import signs
from earstogether.errors import BadTask
from earstogether.factors import factors
from earstogether.journals import journal, read_journal
from earstogether.keeping import Station
from earstogether.late import all_lags, put_back, why_not
from earstogether.lying import picture_but, safe, sole, stories, surely_lying, word_of_one
from earstogether.matrices import determinant, kernel, product, rank, shows_kernel, shows_stepped, solved, stepped
from earstogether.needed import is_enough, least_enough, least_for, least_losses, lot_rank, spare, tells
from earstogether.pictures import ghosts, is_ghost, picture_of, shares, shows_ghosts, shows_picture_of, told
from earstogether.rows import less, plus, read_row, row_text, scaled, shifted, times, turned, worth
from tests.array_support import ARRAYS, LINE, heard_slowly, random_array, random_picture
from tests.keeping_support import line_of, log_of, random_deed, random_worths
from tests.keeping_support import outcome as outcome_of
from tests.lying_support import FOUR, liars_by, with_lies
from tests.matrix_support import NOTHING, ONE
from tests.support import columns_of, is_in_form, later, product_of, random_row, random_something, sum_of, total_of, whole_row
from tests.test_benches import LINE as LINE_WAYS
from tests.test_benches import PLANE, log


def arrays(seed, many=15):
    source = random.Random(seed)
    return ARRAYS + tuple([random_array(source) for _ in range(many)])


class RowsTest(unittest.TestCase):
    """(a)"""

    def test_each_row_in_its_one_form_and_exact(self):
        source = random.Random(601)
        for _ in range(40):
            one, other = random_something(source, 5), random_something(source, 5)
            both = times(one, other)
            self.assertEqual(divided(both, other), (one, NOTHING))
            self.assertEqual(less(plus(one, both), both), one)
            number, shift, found = factors(both)
            back = shifted((0, (number,)), shift)
            for part, many in found:
                for _ in range(many):
                    back = times(back, part)
            self.assertEqual(back, both)
            self.assertEqual(times(correlation(one, other), other), times(one, correlation(other, other)))
            for row in (both, back, common((both, other)), plain(both)[2], turned(one), form_of(one), read_row(row_text(both))):
                self.assertTrue(is_in_form(row))

    def test_told_by_all_modules_alike(self):
        source = random.Random(602)
        for array in arrays(602, 5):
            picture = random_picture(source, array, 3)
            records = heard(array, picture)
            self.assertEqual(read_records(array, records_text(array, records)), records)
            for row in (*records, *[row for ghost in ghosts(array) for row in ghost]):
                self.assertTrue(is_in_form(row))
                self.assertEqual(signs((row,), row[0], 1), "." if row == NOTHING else "+" if worth(row, row[0])[0] > 0 else "-")


class StepsTest(unittest.TestCase):
    """(b)"""

    def test_changes_that_can_be_taken_back(self):
        for array in arrays(603):
            lines = matrix(array)
            changer, steps = stepped(lines)
            self.assertEqual((product(lines, changer), len(determinant(changer)[1])), (steps, 1))
            self.assertIs(shows_stepped(lines, (changer, steps)), True)
            units = tuple([tuple([ONE if k == at else NOTHING for k in range(len(changer))]) for at in range(len(changer))])
            back = columns_of([solved(changer, unit) for unit in units])
            self.assertEqual(product(steps, back), lines)
            self.assertEqual(rank(lines), lot_rank(array, array.names))
            empty = tuple([column for column, told_by in zip(columns_of(changer), columns_of(steps)) if set(told_by) == {NOTHING}])
            self.assertIs(shows_kernel(lines, empty), True)
            self.assertIs(shows_ghosts(array, empty), True)
            self.assertEqual(len(kernel(lines)), len(empty))


class PicturesTest(unittest.TestCase):
    """(c)"""

    def test_one_picture_and_ghosts_make_all(self):
        source = random.Random(604)
        for array in arrays(604):
            planted = random_picture(source, array, 3)
            records = heard(array, planted)
            found = picture_of(array, records)
            ghost = tuple([less(a, b) for a, b in zip(planted, found)])
            self.assertIs(is_ghost(array, ghost), True)
            made = [total_of([times(by, one[way]) for by, one in zip(shares(array, ghost), ghosts(array))]) for way in range(len(ghost))]
            self.assertEqual(tuple(made), ghost)
            for way in range(len(array.ways)):
                word, *row = told(array, way)
                self.assertIs(is_multiple(ghost[way], row[0] if row else NOTHING), True)

    def test_of_some_ears_too(self):
        source = random.Random(605)
        for array in arrays(605):
            picture, liars, records = with_lies(source, array, 1 if len(array.ears) > 1 else 0)
            found, part = picture_but(array, records, liars), without(array, liars)
            ghost = tuple([less(a, b) for a, b in zip(picture, found)])
            self.assertIs(is_ghost(part, ghost), True)
            self.assertEqual(len(shares(part, ghost)), len(array.ways) - lot_rank(array, part.names))


class ChoirsTest(unittest.TestCase):
    """(d)"""

    def test_a_picture_or_a_paper_never_both(self):
        source = random.Random(606)
        seen = {True: 0, False: 0}
        for array in arrays(606):
            for _ in range(3):
                records = tuple([random_row(source, 2, 2, (1,)) for _ in array.ears])
                if source.random() < 0.4:
                    records = heard(array, random_picture(source, array, 3))
                picture, shown = picture_of(array, records), paper(array, records)
                self.assertIs(picture is None, shown is not None)
                self.assertIs(shows_picture_of(array, records, None), shows_paper(array, records, shown) and shown is not None)
                self.assertIs(stories(array, records, 0) == ((),), picture is not None)
                self.assertIs(word_of_one(array, records, 0, array.names[0]) == "none", picture is None)
                if picture is not None:
                    self.assertEqual({outcome(array, choir, records) for choir in choirs(array)} | {NOTHING}, {NOTHING})
                seen[picture is None] += 1
            self.assertIs(shows_choirs(array, choirs(array)), True)
        self.assertGreater(min(seen.values()), 20, seen)


class EarsTest(unittest.TestCase):
    """(e)"""

    def test_lots_told_for_all_of_them(self):
        for array in [array for array in arrays(607) if len(array.ears) < 7]:
            lots = [lot for size in range(1, len(array.names) + 1) for lot in itertools.combinations(array.names, size)]
            enough, losses = least_enough(array), least_losses(array)
            for lot in lots:
                others = tuple([name for name in array.names if name not in lot])
                part = without(array, others)
                self.assertIs(is_enough(array, lot), len(ghosts(part)) == len(ghosts(array)))
                self.assertIs(is_enough(array, lot), any([set(one) <= set(lot) for one in enough]))
                self.assertIs(is_enough(array, others), not any([set(one) <= set(lot) for one in losses]))
                for way in range(len(array.ways)):
                    self.assertIs(tells(array, lot, way), told(part, way) == ("told",))
                    self.assertIs(tells(array, lot, way), any([set(one) <= set(lot) for one in least_for(array, way)]))
            self.assertEqual(spare(array) + 1, min([len(lot) for lot in losses]))
            self.assertEqual(safe(array), None if ghosts(array) else spare(array) // 2)


class LateAndLyingTest(unittest.TestCase):
    """(f)"""

    def test_a_late_ear_lies_too(self):
        picture = (whole_row(0, 1, 2), whole_row(4, 3, 0, -1))
        records = heard(FOUR, picture)
        for at, name in enumerate(FOUR.names):
            written = tuple([later(row, 2) if k == at else row for k, row in enumerate(records)])
            self.assertEqual(all_lags(FOUR, written, ((name, 5),)), ((2,),))
            self.assertEqual((surely_lying(FOUR, written, 1), sole(FOUR, written, 1)), ((name,), picture))
            self.assertEqual(picture_of(FOUR, put_back(FOUR, written, ((name, 5),), (2,))), picture)
            self.assertIsNotNone(why_not(FOUR, written, ((name, 5),), (3,)))

    def test_as_far_as_records_tell(self):
        source = random.Random(608)
        for array in arrays(608):
            written = heard(array, random_picture(source, array, 3))
            late = ((array.names[0], 3),)
            for lags in [(lag,) for lag in range(4)]:
                before = put_back(array, written, late, lags)
                fits = picture_of(array, before) is not None
                self.assertEqual((lags in all_lags(array, written, late), why_not(array, written, late, lags) is None), (fits, fits))
            if len(array.ears) > 1:
                picture, liars, records = with_lies(source, array, 1)
                self.assertTrue(set(liars_by(array, records, picture)) <= set(liars))
                self.assertTrue(any([set(lot) <= set(liars) for lot in stories(array, records, 1)]))
                self.assertIn(word_of_one(array, records, 1, liars[0]), ("lying", "open"))


class CorrelationsTest(unittest.TestCase):
    """(g)"""

    def test_all_with_the_same_correlation(self):
        source = random.Random(609)
        for _ in range(30):
            row = random_something(source, 5, 4, (1, 1, 2))
            told_by = correlation(row, row)
            self.assertEqual(rows_with(told_by), all_alike(row))
            for other in all_alike(row):
                u, v = shared(row, other)
                self.assertEqual([form_of(times(u, v)), form_of(times(u, turned(v)))], [form_of(row), other])
                self.assertEqual(correlation(other, other), told_by)
                self.assertEqual(form_of(other), other)
            both = random_something(source, 4)
            pair = (correlation(row, row), correlation(row, both), correlation(both, both))
            sign = (1 if row[1][0][0] > 0 else -1, 1)
            self.assertIn(tuple([scaled(shifted(one, -row[0]), sign) for one in (row, both)]), pairs_with(*pair))

    def test_what_ears_hear_of_one_way_is_alike(self):
        source = random.Random(610)
        for array in arrays(610, 5):
            row = random_something(source, 4)
            picture = (row, *[NOTHING] * (len(array.ways) - 1))
            for record in heard(array, picture):
                self.assertEqual(all_alike(record), all_alike(row))
                self.assertEqual(form_of(record), form_of(row))


class LiveTest(unittest.TestCase):
    """(h)"""

    def same(self, bench, station):
        """That a bench tells what a Station tells, and what functions tell of its ARRAY and records."""
        mine = bench.station()
        self.assertEqual((mine, len(bench), mine.work), (station, len(station.ears), 0))
        self.assertEqual(log_of(mine), log_of(station))
        desk = Desk(journal(bench))
        if not station.ready:
            self.assertEqual(outcome_of(desk.say, "fits"), ("NoneReady", None))
            return
        array, records = station.array(), station.records
        self.assertEqual(mine.array(), array)
        self.assertIs(mine.picture() is None, picture_of(array, records) is None)
        self.assertIs(shows_picture_of(array, records, station.picture()), True)
        self.assertIs(shows_ghosts(array, station.ghosts()), True)
        self.assertEqual(desk.say("fits"), "no" if picture_of(array, records) is None else "yes")
        self.assertEqual(desk.say("ghosts"), str(len(ghosts(array))))

    def test_a_station_and_a_bench_with_the_same_deeds(self):
        source = random.Random(611)
        for ways in (LINE_WAYS, PLANE) * 3:
            bench, station = Bench(ways), Station(ways)
            for _ in range(40):
                word, arguments = random_deed(source, ways)
                told_by = outcome_of(bench.do, line_of(word, arguments))
                self.assertEqual(told_by, outcome_of(getattr(station, word), *arguments))
            self.same(bench, station)
            self.assertEqual(read_journal(journal(bench)), bench)

    def test_what_comes_late_leaves_what_all_from_nothing_leaves(self):
        source = random.Random(612)
        for _ in range(10):
            array = random_array(source, 4, 3)
            records = heard_slowly(array, random_picture(source, array, 4))
            deeds = []
            for (name, place), (first, worths) in zip(array.ears, records):
                pieces = list(enumerate(worths, first)) or [(3, (0, 1))]
                deeds.append(line_of("put", (name, place)))
                deeds += [line_of("hear", (name, moment, (one,))) for moment, one in source.sample(pieces, len(pieces))]
            logs = []
            for _ in range(2):
                bench = Bench(array.ways)
                for line in sorted(deeds, key=lambda line: (line[0] == "h", source.random())):
                    bench.do(line)
                self.assertEqual((bench.station().array(), bench.station().records), (array, records))
                logs.append(log_of(bench.station()))
            self.assertEqual(logs[0], logs[1])

    def test_what_is_undone_and_not_kept_leaves_nothing(self):
        source = random.Random(613)
        for ways in (LINE_WAYS, PLANE) * 2:
            bench = Bench(ways)
            for _ in range(25):
                outcome_of(bench.do, line_of(*random_deed(source, ways)))
                before, asked = log(bench), Desk(journal(bench))

                def look(one):
                    for _ in range(5):
                        outcome_of(one.do, line_of(*random_deed(source, ways)))
                        outcome_of(source.choice((one.undo, one.redo, one.keep)) if source.random() < 0.3 else one.undo)
                    raise BadTask(None)

                self.assertEqual(outcome_of(bench.tried, look), ("BadTask", None))
                self.assertEqual(log(bench), before)
                done = outcome_of(bench.do, "put q " + " ".join(["0"] * len(ways[0])))
                if done is None:
                    outcome_of(bench.do, line_of("hear", ("q", 0, random_worths(source))))
                    while "put q" in journal(bench):
                        bench.undo()
                self.assertEqual(journal(bench), before[3])
                self.assertEqual(asked.bench, bench)

    def test_a_journal_is_read_back(self):
        bench = Bench(PLANE)
        for line in ("put a 0 0", "put b 2 0", "hear b 2 1 2 0 -1/2", "hear a 0 1 2 0 0 0 -1/2"):
            bench.do(line)
        again = Desk(journal(bench))
        self.assertEqual((again.bench, journal(again.bench)), (bench, journal(bench)))
        self.assertEqual([again.say("row 0"), again.say("row 1")], [row_text(row) for row in bench.station().picture()])
        array = read_array(bench.station().array().text)
        self.assertEqual(picture_of(array, again.bench.station().records), bench.station().picture())


class HandedInAgainTest(unittest.TestCase):

    def test_what_was_told_is_handed_in_again(self):
        """Sums and products of what was told, with great numbers, go through all modules again."""
        source = random.Random(614)
        great = [random_something(source, 4, 999999999, (999999929, 999999937, 1)) for _ in range(2)]
        picture = tuple(great)
        records = heard(LINE, picture)
        for _ in range(2):
            picture = tuple([product_of(sum_of(row, ONE), row) for row in picture])
            records = heard(LINE, picture)
            self.assertEqual(picture_of(LINE, records), picture)
            self.assertEqual(picture_but(LINE, records, ("b",)), picture)
            self.assertEqual(read_records(LINE, records_text(LINE, records)), records)
            u, v = shared(records[0], turned(records[0]))
            self.assertEqual(form_of(times(u, v)), form_of(records[0]))
            self.assertEqual(correlation(u, v), times(u, turned(v)))
        station = Station(LINE.ways)
        for (name, place), (first, worths) in zip(LINE.ears, records):
            station.put(name, place)
            for k in range(0, len(worths), 40):
                station.hear(name, first + k, worths[k:k + 40])
        self.assertEqual((station.records, station.picture()), (records, picture))
        bench = Bench(LINE.ways)
        bench.do("put a 0")
        bench.do(line_of("hear", ("a", records[0][0], records[0][1][:40])))
        self.assertEqual(read_journal(journal(bench)), bench)


if __name__ == "__main__":
    unittest.main()
