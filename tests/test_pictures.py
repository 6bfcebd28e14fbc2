"""Pictures and ghosts: what section 8 tells of right values."""

import itertools
import random
import unittest
from fractions import Fraction

from earstogether.arrays import delays, matrix, moved
from earstogether.choirs import paper
from earstogether.division import common, plain
from earstogether.pictures import (
    ghosts, is_all_told, is_ghost, picture_of, shares, shows_ghosts, shows_picture_of, told,
)
from tests.array_support import (
    ALIKE_HERE, ARRAYS, EIGHT, LINE, MORE_WAYS, ONE_EAR, ONE_PLACE, ONE_WAY, PLANE, SQUARE, THREE_WAYS, TWO, array_of,
    heard_slowly, random_array, random_picture, random_records,
)
from tests.matrix_support import NOTHING, ONE, changed, units
from tests.support import (
    Thing, columns_of, come_to, goes_into, is_in_form, later, product_of, random_row, rank_at, sum_of, whole_row,
    wrong_tuples,
)


def arrays(seed, many=40):
    source = random.Random(seed)
    return ARRAYS + tuple([random_array(source) for _ in range(many)])


def summed(one, other):
    return tuple([sum_of(a, b) for a, b in zip(one, other)])


def times(rows, by):
    return tuple([product_of(row, by) for row in rows])


def some_ghost(source, array):
    """A sum of the ghosts, each times a random ROW."""
    out = (NOTHING,) * len(array.ways)
    for ghost in ghosts(array):
        out = summed(out, times(ghost, random_row(source, 3)))
    return out


class PictureOfTest(unittest.TestCase):

    def check(self, array, records):
        """What is told; where that is none, a choir shows it, reckoned here."""
        picture = picture_of(array, records)
        self.assertIs(shows_picture_of(array, records, picture), True)
        if picture is not None:
            self.assertEqual((type(picture), len(picture)), (tuple, len(array.ways)))
            self.assertTrue(all([is_in_form(row) for row in picture]))
            self.assertEqual(heard_slowly(array, picture), records)
            self.assertIs(shows_picture_of(array, records, None), False)
            self.assertIsNone(paper(array, records))
        else:
            choir, divisor = paper(array, records)
            for gain in come_to(columns_of(matrix(array)), choir):
                self.assertTrue(goes_into(divisor, gain))
            self.assertFalse(goes_into(divisor, come_to((choir,), records)[0]))
        return picture

    def test_records_that_are_heard(self):
        source = random.Random(71)
        for array in arrays(72):
            for _ in range(3):
                picture = random_picture(source, array, 4)
                records = heard_slowly(array, picture)
                found = self.check(array, records)
                self.assertIsNotNone(found)
                if is_all_told(array):
                    self.assertEqual(found, picture)

    def test_records_otherwise(self):
        source = random.Random(73)
        seen = {True: 0, False: 0}
        for array in arrays(74):
            records = heard_slowly(array, random_picture(source, array, 4))
            for ear in range(len(array.ears)):
                other = list(records)
                other[ear] = sum_of(other[ear], source.choice((ONE, whole_row(7, 1), whole_row(-5, Fraction(1, 2), 3))))
                seen[self.check(array, tuple(other)) is None] += 1
            seen[self.check(array, random_records(source, array, 3)) is None] += 1
        self.assertGreater(min(seen.values()), 10)

    def test_known_ones(self):
        self.assertEqual(picture_of(TWO, (ONE, ONE)), (ONE, NOTHING))
        self.assertEqual(picture_of(TWO, (ONE, later(ONE, 1))), (NOTHING, ONE))
        self.assertIsNone(self.check(TWO, (ONE, NOTHING)))
        self.assertEqual(picture_of(TWO, (whole_row(0, 1, -1), NOTHING)), (whole_row(1, -1), ONE))
        self.assertIsNone(self.check(LINE, (ONE, ONE, NOTHING)))
        self.assertIsNone(self.check(ONE_PLACE, (ONE, ONE, NOTHING)))
        self.assertIsNotNone(self.check(ONE_PLACE, (ONE, ONE, ONE)))
        self.assertIsNotNone(self.check(ONE_EAR, (whole_row(-4, 1, 2, 3),)))
        self.assertEqual(self.check(ONE_WAY, (later(ONE, -30), ONE, later(ONE, 30))), (ONE,))
        self.assertIsNone(self.check(ONE_WAY, (ONE, ONE, ONE)))

    def test_nothing(self):
        for array in ARRAYS:
            found = self.check(array, (NOTHING,) * len(array.ears))
            self.assertIs(is_ghost(array, found), True)

    def test_with_a_ghost_it_is_heard_alike(self):
        source = random.Random(75)
        for array in arrays(76, 20):
            picture = random_picture(source, array, 3)
            records = heard_slowly(array, picture)
            for _ in range(3):
                other = summed(picture, some_ghost(source, array))
                self.assertEqual(heard_slowly(array, other), records)
                self.assertIs(shows_picture_of(array, records, other), True)

    def test_pictures_heard_alike_differ_by_a_ghost(self):
        source = random.Random(77)
        for array in arrays(78, 20):
            picture = random_picture(source, array, 3)
            found = picture_of(array, heard_slowly(array, picture))
            rest = summed(picture, times(found, whole_row(0, -1)))
            self.assertIs(is_ghost(array, rest), True)
            by = shares(array, rest)
            self.assertEqual(come_to(columns_of(ghosts(array)), by) if by else (NOTHING,) * len(array.ways), rest)

    def test_records_shifted(self):
        source = random.Random(79)
        for array in arrays(80, 15):
            for records in (heard_slowly(array, random_picture(source, array, 3)), random_records(source, array, 2)):
                found = self.check(array, records)
                for by in (-7, 1, 30):
                    moved_on = self.check(array, tuple([later(row, by) for row in records]))
                    self.assertEqual(moved_on is None, found is None)
                    if found is not None and is_all_told(array):
                        self.assertEqual(moved_on, tuple([later(row, by) for row in found]))

    def test_arrays_moved_by_a_step(self):
        source = random.Random(81)
        for array in arrays(82, 15):
            step = tuple([source.choice((-1, 0, 1)) for _ in array.ways[0]])
            if any([not -10 <= x + y <= 10 for _, place in array.ears for x, y in zip(place, step)]):
                continue
            other = moved(array, step)
            by = [sum([x * y for x, y in zip(way, step)]) for way in array.ways]
            self.assertEqual(delays(other), tuple([tuple([a + b for a, b in zip(line, by)]) for line in delays(array)]))
            picture = random_picture(source, array, 3)
            records = heard_slowly(array, picture)
            same = tuple([later(row, -k) for row, k in zip(picture, by)])
            self.assertIs(shows_picture_of(other, records, same), True)
            self.assertIsNotNone(self.check(other, records))
            ghosts_there = tuple([tuple([later(row, -k) for row, k in zip(ghost, by)]) for ghost in ghosts(array)])
            self.assertIs(shows_ghosts(other, ghosts_there), True)
            for way in range(len(array.ways)):
                self.assertEqual(told(other, way), told(array, way))

    def test_equal_calls(self):
        source = random.Random(83)
        for array in ARRAYS:
            again = array_of([place for _, place in array.ears], array.ways)
            records = heard_slowly(array, random_picture(source, array))
            self.assertEqual(picture_of(array, records), picture_of(again, tuple(list(records))))
            self.assertEqual(ghosts(array), ghosts(again))

    def test_what_was_told_may_be_handed_in_again(self):
        picture = (whole_row(0, 999999937, Fraction(1, 999999929)), whole_row(-3, 5, -999999999))
        for _ in range(4):
            records = heard_slowly(TWO, times(picture, picture[0]))
            picture = self.check(TWO, records)
        self.assertGreater(max([abs(top) for top, _ in picture[0][1]]), 10 ** 80)

    def test_far_apart(self):
        records = (whole_row(0, 1), (0, ((1, 1),) + ((0, 1),) * 79999 + ((3, 1),)), NOTHING)
        self.assertIsNone(picture_of(LINE, records))
        picture = (later(ONE, -50000), later(ONE, 49000))
        self.assertEqual(picture_of(LINE, heard_slowly(LINE, picture)), picture)


class ShowsPictureOfTest(unittest.TestCase):

    def test_near_ones(self):
        picture = (whole_row(0, 1, 2), whole_row(3, -1))
        records = heard_slowly(LINE, picture)
        self.assertIs(shows_picture_of(LINE, records, picture), True)
        for way in (0, 1):
            for by in (ONE, whole_row(9, Fraction(1, 3)), whole_row(-2, -1, 1)):
                other = list(picture)
                other[way] = sum_of(other[way], by)
                self.assertIs(shows_picture_of(LINE, records, tuple(other)), False)
        self.assertIs(shows_picture_of(LINE, records, picture[::-1]), False)

    def test_none(self):
        self.assertIs(shows_picture_of(LINE, (ONE, NOTHING, NOTHING), None), True)
        self.assertIs(shows_picture_of(LINE, (ONE, ONE, ONE), None), False)
        self.assertIs(shows_picture_of(LINE, (ONE, NOTHING, NOTHING), (ONE, NOTHING)), False)

    def test_other_values(self):
        picture = (ONE, later(ONE, 4))
        records = heard_slowly(LINE, picture)
        for value in wrong_tuples(picture):
            self.assertIs(shows_picture_of(LINE, records, value), False, value)


class GhostsTest(unittest.TestCase):

    def test_as_many_as_ways_more_than_the_rank(self):
        for array in arrays(84):
            found = ghosts(array)
            self.assertIs(type(found), tuple)
            self.assertEqual(len(found), len(array.ways) - rank_at(matrix(array)))
            self.assertIs(is_all_told(array), len(found) == 0)
            for ghost in found:
                self.assertEqual((type(ghost), len(ghost)), (tuple, len(array.ways)))
                self.assertTrue(all([is_in_form(row) for row in ghost]))
                self.assertEqual(heard_slowly(array, ghost), (NOTHING,) * len(array.ears))
                self.assertIs(is_ghost(array, ghost), True)
            if found:
                self.assertEqual(rank_at(found), len(found))
            self.assertIs(shows_ghosts(array, found), True)

    def test_is_ghost(self):
        source = random.Random(85)
        for array in arrays(86, 20):
            self.assertIs(is_ghost(array, (NOTHING,) * len(array.ways)), True)
            self.assertIs(is_ghost(array, some_ghost(source, array)), True)
            for _ in range(3):
                picture = random_picture(source, array, 2)
                silent = heard_slowly(array, picture) == (NOTHING,) * len(array.ears)
                self.assertIs(is_ghost(array, picture), silent)
        self.assertIs(is_ghost(ONE_PLACE, (ONE, later(ONE, -4))), False)
        self.assertIs(is_ghost(ONE_PLACE, (ONE, whole_row(-4, -1))), True)

    def test_heard_by_some_ears_only(self):
        ghost = (later(ONE, 1), whole_row(0, -1, -1), ONE)
        self.assertIs(is_ghost(THREE_WAYS, ghost), True)
        self.assertIs(is_ghost(array_of((0, 1, 2), (0, 1, 2)), ghost), False)
        self.assertIs(is_ghost(array_of((2, 0, 1), (0, 1, 2)), ghost), False)

    def test_shares_of_sums(self):
        source = random.Random(87)
        for array in arrays(88, 25):
            found = ghosts(array)
            for _ in range(3):
                by = tuple([random_row(source, 3) for _ in found])
                ghost = come_to(columns_of(found), by) if found else (NOTHING,) * len(array.ways)
                told_by = shares(array, ghost)
                self.assertIs(type(told_by), tuple)
                self.assertEqual(told_by, by)
            for at, ghost in enumerate(found):
                self.assertEqual(shares(array, ghost), units(len(found))[at])

    def test_shares_of_ghosts_reckoned_otherwise(self):
        """Of two ways that come d and e later from ear to ear, three leave differences of clicks as ghosts."""
        for array in (THREE_WAYS, MORE_WAYS, array_of(((1, 2, 0), (0, -1, 3)), ((1, 0, 0), (0, 1, 0), (0, 0, 1), (1, 1, 1)))):
            one, two = delays(array)
            for lot in itertools.combinations(range(len(array.ways)), 3):
                ghost = [NOTHING] * len(array.ways)
                for k in range(3):
                    a, b = lot[(k + 1) % 3], lot[(k + 2) % 3]
                    ghost[lot[k]] = sum_of(later(ONE, one[a] + two[b]), later(whole_row(0, -1), two[a] + one[b]))
                self.assertIs(is_ghost(array, tuple(ghost)), True)
                self.assertEqual(come_to(columns_of(ghosts(array)), shares(array, tuple(ghost))), tuple(ghost))


class ShowsGhostsTest(unittest.TestCase):

    def setUp(self):
        self.ghost = (later(ONE, 1), whole_row(0, -1, -1), ONE)

    def test_units_and_multiples(self):
        for unit in (ONE, whole_row(0, -1), whole_row(-8, Fraction(3, 7)), whole_row(5, 2)):
            self.assertIs(shows_ghosts(THREE_WAYS, (times(self.ghost, unit),)), True)
        for by in (NOTHING, whole_row(0, 1, 1), whole_row(0, 1, -1), whole_row(-3, Fraction(1, 2), 0, 5)):
            self.assertIs(shows_ghosts(THREE_WAYS, (times(self.ghost, by),)), False)

    def test_too_few_too_many_twice(self):
        nothing = (NOTHING,) * 3
        for value in ((), (self.ghost, self.ghost), (self.ghost, nothing), (nothing,), (self.ghost,) * 3):
            self.assertIs(shows_ghosts(THREE_WAYS, value), False)
        for array in [array for array in ARRAYS if len(ghosts(array)) > 1]:
            found = ghosts(array)
            self.assertIs(shows_ghosts(array, found[:-1]), False)
            self.assertIs(shows_ghosts(array, found + found[:1]), False)
            self.assertIs(shows_ghosts(array, found[:-1] + found[:1]), False)
            self.assertIs(shows_ghosts(array, found[::-1]), True)

    def test_no_ghosts(self):
        for array in (TWO, LINE, ONE_WAY, EIGHT):
            self.assertEqual(ghosts(array), ())
            self.assertIs(shows_ghosts(array, ()), True)
            self.assertIs(shows_ghosts(array, ((NOTHING,) * len(array.ways),)), False)

    def test_changed_ones(self):
        source = random.Random(89)
        for array in [array for array in arrays(90) if ghosts(array)]:
            found = ghosts(array)
            across, _ = changed(found, source, 1)
            self.assertIs(shows_ghosts(array, columns_of(across)), True)
            wide = (times(found[0], whole_row(0, 1, 3)), *found[1:])
            self.assertIs(shows_ghosts(array, wide), False)
            heard_one = ((sum_of(found[0][0], ONE), *found[0][1:]), *found[1:])
            self.assertIs(shows_ghosts(array, heard_one), False)

    def test_other_values(self):
        values = [None, True, 0, "", [], {}, Thing(), [self.ghost], self.ghost, (None,), ((),), (self.ghost, None), THREE_WAYS]
        values += [(wrong,) for wrong in wrong_tuples(self.ghost)]
        for value in values:
            self.assertIs(shows_ghosts(THREE_WAYS, value), False, value)


class ToldTest(unittest.TestCase):

    def test_known_ones(self):
        self.assertEqual([told(THREE_WAYS, way) for way in range(3)],
                         [("up to", ONE), ("up to", whole_row(0, 1, 1)), ("up to", ONE)])
        self.assertEqual([told(TWO, 0), told(TWO, 1), told(way=0, array=ONE_WAY)], [("told",)] * 3)
        self.assertEqual([told(ONE_EAR, way) for way in range(3)], [("up to", ONE)] * 3)
        self.assertEqual([told(ONE_PLACE, way) for way in range(2)], [("up to", ONE)] * 2)

    def test_some_told_and_others_not(self):
        alike = array_of(((0, 0), (1, 0), (3, 0)), ((1, -3), (1, 2), (2, 0)))
        self.assertEqual(alike, ALIKE_HERE)
        self.assertEqual([told(alike, way) for way in range(3)], [("up to", ONE), ("up to", ONE), ("told",)])
        self.assertIs(is_all_told(alike), False)

    def test_told_just_where_all_ghosts_have_nothing(self):
        seen = {True: 0, False: 0}
        for array in arrays(91):
            found = ghosts(array)
            for way in range(len(array.ways)):
                row = common(tuple([ghost[way] for ghost in found]))
                self.assertEqual(told(array, way), ("told",) if row == NOTHING else ("up to", row))
                seen[row == NOTHING] += 1
        self.assertGreater(min(seen.values()), 10)

    def test_what_pictures_heard_alike_differ_by(self):
        source = random.Random(92)
        for array in [array for array in arrays(93, 25) if not is_all_told(array)]:
            some = [some_ghost(source, array) for _ in range(8)]
            for way in range(len(array.ways)):
                word, *row = told(array, way)
                if word == "told":
                    self.assertEqual([ghost[way] for ghost in some], [NOTHING] * 8)
                    continue
                self.assertEqual(plain(row[0]), ((1, 1), 0, row[0]))
                self.assertTrue(all([goes_into(row[0], ghost[way]) for ghost in some]))
                self.assertTrue(goes_into(common(tuple([ghost[way] for ghost in some + list(ghosts(array))])), row[0]))

    def test_is_all_told(self):
        for array in (TWO, LINE, PLANE, SQUARE, ONE_WAY, EIGHT):
            self.assertIs(is_all_told(array), True)
        for array in (THREE_WAYS, ONE_EAR, ONE_PLACE, ALIKE_HERE, MORE_WAYS):
            self.assertIs(is_all_told(array=array), False)


class OthersTest(unittest.TestCase):

    def test_the_tests_own_arrays(self):
        """That there are arrays with more ways than ears, and with fewer, among those that are tried."""
        more = [array for array in arrays(94) if len(array.ways) > len(array.ears)]
        self.assertGreater(len(more), 5)
        self.assertGreater(len(arrays(94)) - len(more), 5)


if __name__ == "__main__":
    unittest.main()
