"""Arrays: what section 6 tells of right values."""

import random
import unittest

from earstogether.arrays import Array, delays, ear_of, heard, matrix, moved, without
from earstogether.errors import BadStep
from tests.array_support import (
    ARRAYS, EARS, LINE, NAMES, PLANE, WAYS, array_of, delay_at, heard_slowly, random_array, random_picture,
)
from tests.support import Thing, assert_refused, come_to, is_in_form, later, product_of, whole_row

NOTHING = (0, ())
ONE = (0, ((1, 1),))


class ArrayTest(unittest.TestCase):

    def test_one_integer_a_place(self):
        array = Array((("ear", (10,)), ("ears", (-10,))), ((3,), (-3,), (0,)))
        self.assertEqual(array.ears, (("ear", (10,)), ("ears", (-10,))))
        self.assertEqual(array.ways, ((3,), (-3,), (0,)))
        self.assertEqual(array.names, ("ear", "ears"))
        self.assertEqual(array.text, "ear ear 10\near ears -10\nway 3\nway -3\nway 0")

    def test_two_and_three_integers_a_place(self):
        array = Array(EARS, WAYS)
        self.assertEqual((array.ears, array.ways, array.names), (EARS, WAYS, ("a", "b", "c")))
        self.assertEqual(array.text, "ear a 0 0\near b 2 0\near c 0 3\nway 1 0\nway 0 -1")
        array = Array((("z9", (1, -2, 10)),), ((0, 0, -3),))
        self.assertEqual((array.names, array.text), (("z9",), "ear z9 1 -2 10\nway 0 0 -3"))

    def test_the_ways_stay_in_sequence(self):
        array = Array((("a", (0,)),), ((3,), (-1,), (2,), (0,), (1,), (-3,)))
        self.assertEqual(array.ways, ((3,), (-1,), (2,), (0,), (1,), (-3,)))
        self.assertEqual(array.text, "ear a 0\nway 3\nway -1\nway 2\nway 0\nway 1\nway -3")

    def test_eight_ears_and_six_ways_at_one_place(self):
        array = array_of([7] * 8, range(-3, 3))
        self.assertEqual((len(array.ears), len(array.ways), array.names), (8, 6, NAMES))

    def test_longest_names(self):
        ears = (("a", (0,)), ("a0", (0,)), ("abcdefgh", (0,)), ("b1234567", (0,)), ("ba", (0,)))
        self.assertEqual(Array(ears, ((1,),)).names, ("a", "a0", "abcdefgh", "b1234567", "ba"))

    def test_by_name(self):
        self.assertEqual(Array(ways=WAYS, ears=EARS), PLANE)

    def test_equal(self):
        self.assertTrue(Array(EARS, WAYS) == PLANE)
        self.assertFalse(Array(EARS, WAYS) != PLANE)
        for one in ARRAYS:
            for other in ARRAYS:
                self.assertEqual(one == other, one is other)
                self.assertEqual(one != other, one is not other)

    def test_unlike_in_one_thing(self):
        others = (
            Array(EARS[:2], WAYS), Array(EARS, WAYS[:1]), Array(EARS, WAYS[::-1]), Array(EARS, (*WAYS, (1, 1))),
            Array((("a", (0, 1)), *EARS[1:]), WAYS), Array((*EARS[:2], ("d", (0, 3))), WAYS),
        )
        for other in others:
            self.assertFalse(PLANE == other)
            self.assertTrue(other != PLANE)

    def test_equal_to_nothing_else(self):
        for other in (None, True, 0, "", PLANE.text, (EARS, WAYS), [EARS, WAYS], EARS, Thing(), {}, Array):
            self.assertIs(PLANE == other, False)
            self.assertIs(other == PLANE, False)
            self.assertIs(PLANE != other, True)

    def test_other_operators(self):
        for other in (PLANE, LINE, 1, "a", EARS):
            for look in (
                lambda: PLANE < other, lambda: PLANE >= other, lambda: PLANE + other, lambda: other + PLANE,
                lambda: PLANE * other,
            ):
                self.assertRaises(TypeError, look)


class DelaysTest(unittest.TestCase):

    def test_all_signs(self):
        self.assertEqual(delays(array_of((0, 10, -10), (0, 3, -3))), ((0, 0, 0), (0, 30, -30), (0, -30, 30)))
        array = array_of(((1, 2), (-3, 1)), ((1, 1), (2, -1), (0, -3)))
        self.assertEqual(delays(array), ((3, 0, -6), (-2, -7, -3)))
        self.assertEqual(delays(array_of(((10, -10, 10),), ((3, -3, 3), (-3, 3, -3)))), ((90, -90),))

    def test_all_arrays(self):
        for array in ARRAYS:
            told = delays(array=array)
            self.assertEqual((type(told), len(told)), (tuple, len(array.ears)))
            for ear, line in enumerate(told):
                self.assertIs(type(line), tuple)
                self.assertEqual(line, tuple([delay_at(array, ear, way) for way in range(len(array.ways))]))


class MatrixTest(unittest.TestCase):

    def test_clicks(self):
        array = array_of(((1, 2), (-3, 1)), ((1, 1), (2, -1)))
        one, two = (3, ((1, 1),)), (-2, ((1, 1),))
        self.assertEqual(matrix(array), ((one, (0, ((1, 1),))), (two, (-7, ((1, 1),)))))

    def test_all_arrays(self):
        for array in ARRAYS:
            told = matrix(array=array)
            self.assertEqual(told, tuple([tuple([later(ONE, by) for by in line]) for line in delays(array)]))
            self.assertEqual({type(line) for line in told}, {tuple})


class HeardTest(unittest.TestCase):

    def test_one_click(self):
        self.assertEqual(heard(LINE, (ONE, NOTHING)), (ONE, ONE, ONE))
        self.assertEqual(heard(LINE, (NOTHING, ONE)), (ONE, later(ONE, 1), later(ONE, 2)))

    def test_nothing(self):
        for array in ARRAYS:
            self.assertEqual(heard(array, (NOTHING,) * len(array.ways)), (NOTHING,) * len(array.ears))

    def test_rows_that_cancel_at_one_ear(self):
        picture = (whole_row(3, 1, 2), whole_row(2, -1, -2))
        self.assertEqual(heard(LINE, picture), (whole_row(2, -1, -1, 2), NOTHING, whole_row(3, 1, 1, -2)))

    def test_at_random(self):
        source = random.Random(31)
        for array in ARRAYS + tuple([random_array(source) for _ in range(40)]):
            for _ in range(4):
                picture = random_picture(source, array)
                told = heard(array, picture)
                self.assertIs(type(told), tuple)
                self.assertEqual(told, heard_slowly(array, picture))
                self.assertEqual(told, come_to(matrix(array), picture))
                self.assertTrue(all([is_in_form(row) for row in told]))

    def test_by_name(self):
        self.assertEqual(heard(picture=(ONE, NOTHING), array=LINE), (ONE, ONE, ONE))

    def test_what_was_told_may_be_handed_in_again(self):
        picture = (whole_row(0, 999999937, 999999929), whole_row(-7, 1, -999999999))
        for _ in range(5):
            picture = tuple([product_of(row, row) for row in heard(LINE, picture)[1:]])
        self.assertGreater(max([top for row in picture for top, _ in row[1]]), 10 ** 250)
        self.assertEqual(heard(LINE, picture), heard_slowly(LINE, picture))


class WithoutTest(unittest.TestCase):

    def test_none_one_several(self):
        self.assertEqual(without(PLANE, ()), PLANE)
        self.assertEqual(without(PLANE, ("b",)), Array((EARS[0], EARS[2]), WAYS))
        self.assertEqual(without(PLANE, ("a", "c")), Array(EARS[1:2], WAYS))
        self.assertEqual(without(names=("a", "b"), array=PLANE), Array(EARS[2:], WAYS))

    def test_the_array_stays(self):
        before = PLANE.text
        without(PLANE, ("a",))
        self.assertEqual((PLANE.text, PLANE.ears), (before, EARS))


class EarOfTest(unittest.TestCase):

    def test_numbers(self):
        for array in ARRAYS:
            self.assertEqual([ear_of(array, name) for name in array.names], list(range(len(array.ears))))
        self.assertEqual(ear_of(name="b", array=Array((("b", (0,)), ("bb", (1,))), ((1,),))), 0)


class MovedTest(unittest.TestCase):

    def test_there_and_back(self):
        for step in ((1, 0), (-3, 2), (0, 0), (8, 7), (-10, -10)):
            told = moved(PLANE, step)
            places = tuple([(name, (x + step[0], y + step[1])) for name, (x, y) in EARS])
            self.assertEqual(told, Array(places, WAYS))
            self.assertEqual(moved(told, (-step[0], -step[1])), PLANE)

    def test_to_the_bounds_and_beyond(self):
        self.assertEqual(moved(PLANE, (8, 7)).ears[1:], (("b", (10, 7)), ("c", (8, 10))))
        for step in ((9, 0), (0, 8), (-11, 0), (0, -11), (9, 8), (8, 8), (10 ** 9, 0), (-(10 ** 9), 0)):
            assert_refused(self, BadStep, step, moved, PLANE, step)
        array = array_of((-10, 10), (1,))
        self.assertEqual(moved(array, (0,)), array)
        for step in ((1,), (-1,), (20,)):
            assert_refused(self, BadStep, step, moved, array, step)

    def test_by_name(self):
        self.assertEqual(moved(step=(5,), array=LINE), array_of((5, 6, 7), (0, 1)))

    def test_ways_as_much_later(self):
        source = random.Random(32)
        for _ in range(20):
            array = random_array(source)
            step = tuple([source.randint(-6, 6) for _ in array.ways[0]])
            by = [sum([number * more for number, more in zip(way, step)]) for way in array.ways]
            told = delays(moved(array, step))
            self.assertEqual(told, tuple([tuple([a + b for a, b in zip(line, by)]) for line in delays(array)]))


if __name__ == "__main__":
    unittest.main()
