"""Ears that matter: what section 10 tells of right values, beside what going through all lots tells."""

import functools
import itertools
import random
import unittest

from earstogether.arrays import matrix, read_array, without
from earstogether.choirs import choirs
from earstogether.matrices import determinant
from earstogether.needed import (
    is_enough, least_choirs, least_enough, least_for, least_losses, least_losses_for, lot_rank, spare, tells, word_of_ear,
)
from earstogether.pictures import ghosts, told
from tests.array_support import (
    ALIKE_HERE, ARRAYS, EIGHT, LINE, ONE_EAR, ONE_PLACE, ONE_WAY, SQUARE, THREE_WAYS, TWO, array_of, random_array,
)
from tests.support import rank_at

NOTHING = (0, ())

FAR = array_of(
    ((10, -10, 3), (-10, 10, 10), (9, 8, -7), (0, 0, 0), (-9, -9, 9)),
    ((3, -3, 3), (-3, 3, -3), (1, 2, 3), (0, 0, 0), (-2, 1, 0), (3, 3, 3)),
)


# Its determinant is a ROW of which the worths, each times a power of 2, come to 0, though it isn't nothing.
ROOT_AT_2 = array_of(
    ((0, -2, 0), (0, -2, 1), (0, 0, 2), (2, -2, 2)), ((1, 0, 0), (0, 0, -2), (-1, 1, 1), (1, 1, -1)),
)


def arrays():
    source = random.Random(121)
    return ARRAYS + (FAR, ROOT_AT_2) + tuple([random_array(source, 5, 4) for _ in range(60)])


class Lots:
    """All lots of an array, and what pictures.py and choirs.py tell of each by itself."""

    def __init__(self, array):
        self.names = array.names
        self.all = [lot for size in range(len(self.names) + 1) for lot in itertools.combinations(self.names, size)]
        parts = {lot: without(array, self.others(lot)) for lot in self.all if lot}
        hidden = {lot: ghosts(parts[lot]) for lot in parts}
        self.ranks = {lot: len(array.ways) - len(hidden[lot]) if lot else 0 for lot in self.all}
        self.choirs = {lot: choirs(parts[lot]) if lot else () for lot in self.all}
        self.told = {(): [False] * len(array.ways)}
        for lot in parts:
            self.told[lot] = [all([ghost[way] == NOTHING for ghost in hidden[lot]]) for way in range(len(array.ways))]

    def others(self, lot):
        return tuple([name for name in self.names if name not in lot])

    def is_enough(self, lot):
        return self.ranks[lot] == self.ranks[self.names]

    def tells(self, lot, way):
        return self.told[lot][way]

    def has_choir(self, lot):
        return len(self.choirs[lot]) > 0

    def least(self, has):
        """The least lots that have something, also where more ones wouldn't have it."""
        found = [lot for lot in self.all if has(lot)]
        return tuple(sorted([lot for lot in found if not any([set(other) < set(lot) for other in found])]))


@functools.lru_cache(None)
def lots_of(text):
    return Lots(read_array(text))


class LotsTest(unittest.TestCase):

    def test_lot_rank(self):
        for array in arrays():
            lots = lots_of(array.text)
            for lot in lots.all:
                self.assertEqual(lot_rank(array, lot), lots.ranks[lot])
                lines = [line for name, line in zip(array.names, matrix(array)) if name in lot]
                self.assertEqual(lot_rank(array, lot), rank_at(lines))

    def test_is_enough(self):
        for array in arrays():
            lots = lots_of(array.text)
            for lot in lots.all:
                self.assertIs(is_enough(array, lot), lots.is_enough(lot))

    def test_tells(self):
        for array in arrays():
            lots = lots_of(array.text)
            for lot in lots.all:
                for way in range(len(array.ways)):
                    self.assertIs(tells(array, lot, way), lots.tells(lot, way))

    def test_of_none(self):
        for array in ARRAYS:
            self.assertEqual(repr(lot_rank(array, ())), "0")
            self.assertIs(is_enough(array, ()), False)
            self.assertIs(tells(array, (), 0), False)

    def test_known_ones(self):
        self.assertEqual([lot_rank(LINE, names) for names in ((), ("b",), ("a", "c"), LINE.names)], [0, 1, 2, 2])
        self.assertEqual([lot_rank(ONE_PLACE, names) for names in (("a",), ("a", "b"), ONE_PLACE.names)], [1, 1, 1])
        self.assertEqual([is_enough(ONE_PLACE, ("b",)), is_enough(LINE, ("b",))], [True, False])
        self.assertEqual([tells(ALIKE_HERE, ("a", "b"), way) for way in range(3)], [False, False, True])
        self.assertEqual([tells(ONE_WAY, (name,), 0) for name in "abc"], [True] * 3)

    def test_a_determinant_with_a_root_at_2(self):
        self.assertNotEqual(determinant(matrix(ROOT_AT_2)), NOTHING)
        self.assertEqual(lot_rank(ROOT_AT_2, ROOT_AT_2.names), 4)
        self.assertEqual([tells(ROOT_AT_2, ROOT_AT_2.names, way) for way in range(4)], [True] * 4)

    def test_by_name(self):
        self.assertEqual(lot_rank(names=("a",), array=LINE), 1)
        self.assertIs(is_enough(names=("a", "b"), array=LINE), True)
        self.assertIs(tells(way=1, names=("a", "b"), array=LINE), True)


class LeastTest(unittest.TestCase):

    def check(self, told_lots, lots, has):
        self.assertEqual(told_lots, lots.least(has))
        self.assertEqual({type(lot) for lot in (told_lots, *told_lots)}, {tuple})
        self.assertEqual(told_lots, tuple(sorted(told_lots)))

    def test_least_enough(self):
        for array in arrays():
            lots = lots_of(array.text)
            self.check(least_enough(array), lots, lots.is_enough)
            self.assertEqual({len(lot) for lot in least_enough(array)}, {lot_rank(array, array.names)})

    def test_least_for(self):
        for array in arrays():
            lots = lots_of(array.text)
            for way in range(len(array.ways)):
                self.check(least_for(array, way), lots, lambda lot: lots.tells(lot, way))
                self.assertIs(least_for(array, way) == (), told(array, way) != ("told",))

    def test_least_losses(self):
        for array in arrays():
            lots = lots_of(array.text)
            self.check(least_losses(array), lots, lambda lot: not lots.is_enough(lots.others(lot)))

    def test_least_losses_for(self):
        for array in arrays():
            lots = lots_of(array.text)
            for way in range(len(array.ways)):
                if lots.tells(array.names, way):
                    self.check(least_losses_for(array, way), lots, lambda lot: not lots.tells(lots.others(lot), way))
                else:
                    self.assertEqual(least_losses_for(array, way), ())

    def test_least_choirs(self):
        for array in arrays():
            lots = lots_of(array.text)
            self.check(least_choirs(array), lots, lots.has_choir)

    def test_known_ones(self):
        self.assertEqual(least_enough(ONE_PLACE), (("a",), ("b",), ("c",)))
        self.assertEqual(least_losses(ONE_PLACE), (("a", "b", "c"),))
        self.assertEqual(least_choirs(ONE_PLACE), (("a", "b"), ("a", "c"), ("b", "c")))
        self.assertEqual([least_choirs(TWO), least_choirs(ONE_EAR), least_choirs(THREE_WAYS)], [(), (), ()])
        self.assertEqual(least_losses(ONE_EAR), (("a",),))
        self.assertEqual([least_for(ONE_EAR, 0), least_losses_for(ONE_EAR, 0)], [(), ()])
        self.assertEqual([least_for(ONE_PLACE, 1), least_losses_for(ONE_PLACE, 1)], [(), ()])
        self.assertEqual(least_for(way=2, array=SQUARE), (("a", "b"), ("a", "c"), ("b", "c")))
        self.assertEqual(least_losses_for(way=2, array=SQUARE), (("a", "b"), ("a", "c"), ("b", "c")))
        self.assertEqual(least_for(ALIKE_HERE, 2), (("a", "b"), ("a", "c"), ("b", "c")))

    def test_eight_ears_on_a_line(self):
        names = EIGHT.names
        self.assertEqual(len(EIGHT.ways), 4)
        self.assertEqual(least_enough(EIGHT), tuple(itertools.combinations(names, 4)))
        self.assertEqual(least_losses(EIGHT), tuple(itertools.combinations(names, 5)))
        self.assertEqual(least_choirs(EIGHT), tuple(itertools.combinations(names, 5)))
        self.assertEqual(spare(EIGHT), 4)

    def test_lots_of_unlike_size_are_ascending_as_tuples(self):
        self.assertEqual(least_losses(SQUARE), (("a", "b"), ("a", "c"), ("b", "c"), ("d",)))


class SpareTest(unittest.TestCase):

    def test_as_all_losses_tell(self):
        for array in arrays():
            lots = lots_of(array.text)
            many = 0
            while all([lots.is_enough(lots.others(lot)) for lot in lots.all if len(lot) == many + 1]):
                many += 1
            self.assertEqual(repr(spare(array)), repr(many))

    def test_known_ones(self):
        self.assertEqual([spare(array) for array in (TWO, LINE, ONE_PLACE, ONE_EAR, ONE_WAY, SQUARE)], [0, 1, 2, 0, 2, 0])
        self.assertEqual(spare(array=array_of((1, 2, 3, 4, 5), (0, 1))), 3)


class WordOfEarTest(unittest.TestCase):

    def test_as_the_loss_tells(self):
        for array in arrays():
            lots = lots_of(array.text)
            for name in array.names:
                want = "spare" if lots.is_enough(lots.others((name,))) else "needed"
                self.assertEqual(word_of_ear(array, name), want)

    def test_known_ones(self):
        self.assertEqual([word_of_ear(SQUARE, name) for name in "abcd"], ["spare"] * 3 + ["needed"])
        self.assertEqual([word_of_ear(TWO, "a"), word_of_ear(name="a", array=ONE_EAR)], ["needed"] * 2)


if __name__ == "__main__":
    unittest.main()
