"""What holds across sections 5 to 11."""

import random
import unittest
from fractions import Fraction

from earstogether.arrays import heard, matrix, without
from earstogether.choirs import choirs, outcome, paper
from earstogether.division import common
from earstogether.factors import factors
from earstogether.late import all_lags
from earstogether.matrices import determinant, kernel, rank, solved
from earstogether.needed import least_choirs, lot_rank, spare, tells
from earstogether.pictures import ghosts, is_all_told, picture_of, shows_picture_of, told
from tests.array_support import ARRAYS, array_of, heard_slowly, random_array, random_picture
from tests.matrix_support import NOTHING
from tests.support import columns_of, later, product_of, rank_at, sum_of, whole_row


def arrays(seed, many=25):
    source = random.Random(seed)
    return ARRAYS + tuple([random_array(source) for _ in range(many)])


def on_a_line(source):
    """Ears and WAYS on a line, at least as many ears at unlike PLACES as WAYS."""
    ways = source.sample(range(-3, 4), source.randint(1, 6))
    places = source.sample(range(-10, 11), source.randint(len(ways), 8) if len(ways) < 8 else 8)
    return array_of(places, ways)


class LineTest(unittest.TestCase):

    def test_with_as_many_ears_at_unlike_places_as_ways_nothing_is_hidden(self):
        source = random.Random(151)
        for _ in range(40):
            array = on_a_line(source)
            self.assertEqual((ghosts(array), is_all_told(array)), ((), True))
            self.assertEqual({told(array, way) for way in range(len(array.ways))}, {("told",)})
            self.assertEqual(spare(array), len(array.ears) - len(array.ways))
            picture = random_picture(source, array, 4)
            self.assertEqual(picture_of(array, heard(array, picture)), picture)

    def test_with_fewer_ears_something_is(self):
        source = random.Random(152)
        for _ in range(20):
            ways = source.sample(range(-3, 4), source.randint(2, 6))
            array = array_of(source.sample(range(-10, 11), source.randint(1, len(ways) - 1)), ways)
            self.assertEqual(len(ghosts(array)), len(array.ways) - len(array.ears))
            self.assertIs(is_all_told(array), False)

    def test_ears_at_one_place_count_once(self):
        self.assertIs(is_all_told(array_of((1, 1, 2, 2), (0, 1))), True)
        self.assertEqual(len(ghosts(array_of((1, 1, 2, 2), (0, 1, 2)))), 1)

    def test_determinants_of_ways_on_a_line(self):
        """Ears at 0, 1, 2 ..: the determinant is made of differences of clicks, one for each two ways."""
        for ways in ((0, 1), (-1, 2), (0, 1, 3), (-3, -1, 0, 2)):
            array = array_of(range(len(ways)), ways)
            product = whole_row(0, 1)
            for k, high in enumerate(ways):
                for low in ways[:k]:
                    product = product_of(product, sum_of(later(whole_row(0, 1), high), later(whole_row(0, -1), low)))
            self.assertEqual(determinant(matrix(array)), product)
        _, _, found = factors(determinant(matrix(array_of((0, 1, 2), (0, 1, 3)))))
        self.assertEqual(found, ((whole_row(0, 1, -1), 3), (whole_row(0, 1, 1), 1), (whole_row(0, 1, 1, 1), 1)))


class SumsTest(unittest.TestCase):

    def test_sums_and_multiples_of_records_have_those_of_pictures(self):
        source = random.Random(153)
        for array in arrays(154):
            one, other = [random_picture(source, array, 3) for _ in range(2)]
            by = whole_row(source.randint(-5, 5), 2, 0, Fraction(-1, 3))
            left, right = heard_slowly(array, one), heard_slowly(array, other)
            records = tuple([sum_of(product_of(a, by), b) for a, b in zip(left, right)])
            a, b = picture_of(array, left), picture_of(array, right)
            made = tuple([sum_of(product_of(x, by), y) for x, y in zip(a, b)])
            self.assertEqual(heard_slowly(array, made), records)
            self.assertIs(shows_picture_of(array, records, made), True)
            self.assertIsNotNone(picture_of(array, records))

    def test_records_that_are_not_heard_stay_so_with_those_that_are(self):
        source = random.Random(155)
        some = 0
        for array in arrays(156):
            records = tuple([later(whole_row(0, 1, 2), source.randint(-9, 9)) for _ in array.ears])
            told_paper = paper(array, records)
            if told_paper is None:
                continue
            some += 1
            more = heard_slowly(array, random_picture(source, array, 3))
            both = tuple([sum_of(a, b) for a, b in zip(records, more)])
            self.assertIsNone(picture_of(array, both))
            self.assertIsNone(picture_of(array, tuple([later(row, 5) for row in both])))
        self.assertGreater(some, 5)


class OneEarMoreTest(unittest.TestCase):

    def test_the_rank_is_no_less_and_one_more_at_most(self):
        for array in arrays(157):
            before = 0
            for many in range(1, len(array.ears) + 1):
                now = lot_rank(array, array.names[:many])
                self.assertIn(now - before, (0, 1))
                before = now
            self.assertEqual(before, rank(matrix(array)))

    def test_what_is_told_stays_told(self):
        for array in arrays(158):
            for name in array.names[:3]:
                names = tuple([one for one in array.names if one != name])
                for way in range(len(array.ways)):
                    if names and tells(array, names, way):
                        self.assertEqual(told(array, way), ("told",))

    def test_ghosts_of_all_are_ghosts_of_some(self):
        for array in arrays(159):
            if len(array.ears) > 1:
                part = without(array, array.names[:1])
                self.assertGreaterEqual(len(ghosts(part)), len(ghosts(array)))
                for ghost in ghosts(array):
                    self.assertEqual(heard_slowly(part, ghost), (NOTHING,) * len(part.ears))


class TogetherTest(unittest.TestCase):

    def test_ranks_of_lines_and_of_columns(self):
        for array in arrays(160):
            lines = matrix(array)
            self.assertEqual(len(kernel(lines)), len(ghosts(array)))
            self.assertEqual(len(choirs(array)) - len(ghosts(array)), len(array.ears) - len(array.ways))
            self.assertEqual([rank(lines), rank(columns_of(lines))], [rank_at(lines)] * 2)
            self.assertEqual(least_choirs(array) == (), len(choirs(array)) == 0)

    def test_silent_choirs_tell_nothing_of_what_is_heard(self):
        source = random.Random(161)
        for array in arrays(162):
            records = heard(array, random_picture(source, array, 4))
            self.assertEqual([outcome(array, choir, records) for choir in choirs(array)], [NOTHING] * len(choirs(array)))

    def test_solved_and_picture_of(self):
        source = random.Random(163)
        for array in arrays(164):
            records = heard(array, random_picture(source, array, 3))
            self.assertEqual(heard(array, solved(matrix(array), records)), records)

    def test_up_to_what_the_ghosts_have_in_common(self):
        for array in arrays(165):
            for way in range(len(array.ways)):
                row = common(tuple([ghost[way] for ghost in ghosts(array)]))
                self.assertEqual(told(array, way) == ("told",), row == NOTHING)

    def test_lags_put_on_are_among_all_lags(self):
        source = random.Random(166)
        for array in arrays(167):
            records = heard(array, random_picture(source, array, 3))
            late = ((array.names[-1], 3),)
            written = (*records[:-1], later(records[-1], 2))
            self.assertIn((2,), all_lags(array, written, late))

    def test_values_stay_as_they_are(self):
        source = random.Random(168)
        for array in ARRAYS:
            before = (array.text, repr(array.ears), repr(array.ways), array.names)
            records = heard(array, random_picture(source, array))
            kept = repr(records)
            picture_of(array, records), paper(array, records), ghosts(array), choirs(array), spare(array)
            all_lags(array, records, ((array.names[0], 1),))
            self.assertEqual((array.text, repr(array.ears), repr(array.ways), array.names), before)
            self.assertEqual(repr(records), kept)


if __name__ == "__main__":
    unittest.main()
