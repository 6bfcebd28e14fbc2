"""What arrays.py refuses: sections 2 and 6."""

import unittest

from earstogether.arrays import Array, delays, ear_of, heard, matrix, moved, without
from earstogether.errors import BadEars, BadNames, BadPicture, BadStep, BadWays, NoArray, NoEar
from tests.array_support import EARS, LINE, NO_ARRAYS, NO_EARS_THERE, NO_NAMES, PLANE, WAYS
from tests.support import NO_INTEGERS, Thing, assert_refusals, assert_refused, whole_row, wrong_tuples

NOTHING = (0, ())

# Tuples of one, of two and of four numbers, or what isn't any.
NO_TUPLES = (None, True, 0, 1, "", "0", "00", [], [0], [0, 0], {}, (), (0, 0, 0, 0), ((0,), (0,)), (1, 1, 1, 1, 1), Thing())

NO_PLACES = NO_TUPLES + tuple([(0, value) for value in NO_INTEGERS]) + (
    (11, 0), (0, 11), (-11, 0), (0, -11), (10 ** 9, 0), (0, 10, 11), (0, (0,)), ([0], 0),
)
NO_WAYS_AT_ALL = NO_TUPLES + tuple([(0, value) for value in NO_INTEGERS]) + ((4, 0), (0, 4), (-4, 0), (0, -4), (10 ** 9, 0))
BAD_NAMES = (
    None, True, 0, "", "A", "aB", "1", "1a", "9", " ", "a ", " a", "a b", "a_b", "a-b", "a.b", "abcdefghi", "a" * 100, "\n", "a\n",
    ("a",), ["a"], b"a", Thing(),
)


def bad_ears():
    out = [None, True, 0, "", "ears", (), [], list(EARS), {"a": (0, 0)}, EARS[0], (EARS,), ("a", (0, 0)), Thing(), PLANE]
    for name in BAD_NAMES:
        out += [((name, (0, 0)), ("zz", (0, 0))), (("a", (0, 0)), (name, (0, 0))), ((name, (0,)),)]
    for place in NO_PLACES:
        out += [(("a", place),), (("a", (0, 0)), ("b", place)), (("a", place), ("b", place))]
    for ear in (None, "a", (), ("a",), ("a", (0, 0), 0), ["a", (0, 0)], ("a", [0, 0]), ((0, 0), "a"), "ab", {"a": (0, 0)}, 0):
        out += [(ear,), (ear, ("z", (0, 0))), (("a", (0, 0)), ear)]
    out += [EARS[::-1], EARS + EARS[2:], (EARS[0], EARS[0]), (EARS[1], EARS[0], EARS[2]), (EARS[0], EARS[2], EARS[1])]
    out += [(("a", (0, 0)), ("a", (1, 1))), (("aa", (0, 0)), ("a", (1, 1))), (("a2", (0, 0)), ("a10", (1, 1)))]
    out += [(("a", (0,)), ("b", (0, 0))), (("a", (0, 0)), ("b", (0, 0, 0))), (("a", (0, 0)), ("b", (0, 0)), ("c", (0,)))]
    out += [tuple([(name, (0, 0)) for name in "abcdefghi"]), tuple([(name, (k, k)) for k, name in enumerate("abcdefghij")])]
    return out


def bad_ways():
    out = [None, True, 0, "", "ways", (), [], list(WAYS), {(1, 0): 1}, WAYS[0], (WAYS,), [WAYS], Thing(), PLANE]
    for way in NO_WAYS_AT_ALL:
        out += [(way,), ((1, 0), way), (way, (1, 0), (0, 1))]
    out += [((1, 0), (1, 0)), ((1, 0), (0, 1), (1, 0)), ((0, 0), (0, 0)), WAYS + WAYS]
    out += [((1,),), ((1, 0, 0),), ((1, 0), (1,)), ((1,), (1, 0)), ((1, 0), (1, 0, 0)), ((1,), (2,), (3,)), ((1, 1, 1), (0, 0, 0))]
    out += [tuple([(k, 0) for k in range(-3, 4)]), tuple([(k, 1) for k in range(-3, 4)]) + WAYS]
    return out


class ArrayTest(unittest.TestCase):

    def test_ears(self):
        for ears in bad_ears():
            for ways in (WAYS, (), None, ((True, 0),), ((1,),)):
                assert_refused(self, BadEars, ears, Array, ears, ways)
            assert_refused(self, BadEars, ears, Array, ways=WAYS, ears=ears)

    def test_ways(self):
        for ways in bad_ways():
            assert_refused(self, BadWays, ways, Array, EARS, ways)
            assert_refused(self, BadWays, ways, Array, ways=ways, ears=EARS)

    def test_ways_to_other_places(self):
        for many in (1, 2, 3):
            for other in (1, 2, 3):
                ears, ways = (("a", (0,) * many),), ((1,) * other,)
                if many == other:
                    self.assertEqual((Array(ears, ways).ears, Array(ears, ways).ways), (ears, ways))
                else:
                    assert_refused(self, BadWays, ways, Array, ears, ways)

    def test_no_ears_0_and_9_ears_0_and_7_ways(self):
        nine = tuple([(name, (0,)) for name in "abcdefghi"])
        self.assertEqual(Array(nine[:8], ((1,),)).ears, nine[:8])
        assert_refused(self, BadEars, nine, Array, nine, ((1,),))
        none = ()
        assert_refused(self, BadEars, none, Array, none, none)
        assert_refused(self, BadWays, none, Array, nine[:1], none)
        seven = tuple([(k,) for k in range(-3, 4)])
        self.assertEqual(Array(nine[:1], seven[:6]).ways, seven[:6])
        assert_refused(self, BadWays, seven, Array, nine[:1], seven)


class FunctionsTest(unittest.TestCase):

    def test_array_alone(self):
        for look in (delays, matrix):
            assert_refusals(self, look, {"array": LINE}, {"array": (NoArray, NO_ARRAYS)})

    def test_heard(self):
        picture = (whole_row(0, 1, 2), whole_row(-3, -1))
        wrong = {"array": (NoArray, NO_ARRAYS), "picture": (BadPicture, wrong_tuples(picture))}
        assert_refusals(self, heard, {"array": LINE, "picture": picture}, wrong)
        records = (NOTHING,) * 3
        assert_refused(self, BadPicture, records, heard, LINE, records)

    def test_without(self):
        values = (*NO_NAMES, ("a", "b", "c"))
        wrong = {"array": (NoArray, NO_ARRAYS), "names": (BadNames, values)}
        assert_refusals(self, without, {"array": LINE, "names": ("a", "c")}, wrong)

    def test_ear_of(self):
        wrong = {"array": (NoArray, NO_ARRAYS), "name": (NoEar, NO_EARS_THERE)}
        assert_refusals(self, ear_of, {"array": LINE, "name": "b"}, wrong)

    def test_moved(self):
        steps = [None, True, 0, "", "00", [0, 0], (), (0,), (0, 0, 0), ((0, 0),), {0: 0, 1: 1}, Thing(), (11, 0), (0, -11), (9, 0)]
        steps += [(0, value) for value in NO_INTEGERS] + [(value, 0) for value in NO_INTEGERS]
        wrong = {"array": (NoArray, NO_ARRAYS), "step": (BadStep, steps)}
        assert_refusals(self, moved, {"array": PLANE, "step": (1, 1)}, wrong)


if __name__ == "__main__":
    unittest.main()
