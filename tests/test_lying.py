"""Lying ears: what section 12 tells of right values, beside what going through all lots tells."""

import itertools
import random
import unittest

from earstogether.arrays import heard, without
from earstogether.choirs import only_endless
from earstogether.lying import (
    picture_but, safe, shows_picture_but, sole, stories, surely_lying, surely_true, word_of_one,
)
from earstogether.needed import least_losses, spare
from earstogether.pictures import ghosts, is_all_told, picture_of, shows_picture_of
from tests.array_support import (
    EIGHT, EIGHT_SIX, LINE, MORE_WAYS, ONE_EAR, ONE_PLACE, ONE_WAY, SQUARE, THREE_WAYS, TWO, heard_slowly,
    random_picture,
)
from tests.lying_support import (
    FIVE, FOUR, SEVEN, SIX_ALIKE, arrays, cases, fitting_slowly, least_slowly, liars_by, lots_of, picture_without,
    rest_of, with_lies, words_slowly,
)
from tests.matrix_support import NOTHING, ONE
from tests.support import Thing, later, random_something, sum_of, whole_row, wrong_tuples


def numbers_of(array):
    """Some numbers of ears that may lie at most: few, and of few ears the greatest one too."""
    many = len(array.ears)
    return sorted({0, min(1, many - 1), min(2, many - 1), many - 1 if many < 6 else 0})


def added(one, other):
    return tuple([sum_of(a, b) for a, b in zip(one, other)])


class PictureButTest(unittest.TestCase):

    def test_heard_by_all_others_as_they_wrote_it(self):
        seen = {"some": 0, "none": 0}
        for array, records in cases(201):
            for lot in lots_of(array, len(array.ears) - 1)[:40]:
                told = picture_but(array, records, lot)
                part, rest = without(array, lot), rest_of(array, records, lot)
                self.assertIs(told is None, picture_of(part, rest) is None)
                self.assertIs(shows_picture_but(array, records, lot, told), True)
                seen["none" if told is None else "some"] += 1
                if told is not None:
                    self.assertIs(type(told), tuple)
                    self.assertEqual(heard_slowly(part, told), rest)
                    self.assertLessEqual(set(liars_by(array, records, told)), set(lot))
        self.assertGreater(min(seen.values()), 100, seen)

    def test_of_no_names_as_picture_of(self):
        for array, records in cases(202):
            told = picture_but(array, records, ())
            self.assertIs(shows_picture_of(array, records, told), True)
            self.assertIs(told is None, picture_of(array, records) is None)

    def test_of_the_liars_and_of_more(self):
        source = random.Random(203)
        for array in arrays(203):
            for many in range(min(3, len(array.ears))):
                picture, liars, records = with_lies(source, array, many)
                self.assertIs(shows_picture_but(array, records, liars, picture), True)
                self.assertIsNotNone(picture_but(array, records, liars))
                for lot in lots_of(array, len(array.ears) - 1):
                    if set(liars) <= set(lot):
                        self.assertIs(shows_picture_but(array, records, lot, picture), True)
                        self.assertIsNotNone(picture_but(array, records, lot))
                        break

    def test_where_only_a_division_leaves_a_rest(self):
        records = (ONE, NOTHING, NOTHING, NOTHING)
        for lot in (("b", "c"), ("b", "d"), ("c", "d")):
            self.assertIsNone(picture_but(FOUR, records, lot))
            self.assertIs(only_endless(without(FOUR, lot), rest_of(FOUR, records, lot)), True)
            self.assertIs(shows_picture_but(FOUR, records, lot, None), True)
        self.assertEqual(picture_but(FOUR, records, ("a",)), (NOTHING, NOTHING))
        self.assertIsNone(picture_but(LINE, (ONE, NOTHING, NOTHING), ("c",)))
        self.assertIsNotNone(picture_but(LINE, (ONE, NOTHING, NOTHING), ("a",)))
        self.assertEqual(picture_but(LINE, (ONE, NOTHING, NOTHING), ("a", "b")), picture_of(without(LINE, ("a", "b")), (NOTHING,)))

    def test_known_ones(self):
        records = heard(FOUR, (ONE, NOTHING))
        lies = (records[0], whole_row(5, 1), *records[2:])
        self.assertEqual(picture_but(FOUR, lies, ("b",)), (ONE, NOTHING))
        self.assertEqual(picture_but(names=("a", "b"), records=lies, array=FOUR), (ONE, NOTHING))
        self.assertIsNone(picture_but(FOUR, lies, ("a",)))
        self.assertIsNone(picture_but(FOUR, lies, ()))
        self.assertEqual(picture_but(ONE_WAY, (ONE, NOTHING, NOTHING), ("b", "c")), (later(ONE, 30),))

    def test_equal_calls(self):
        for array, records in cases(204, 4)[:30]:
            lot = array.names[1:]
            again = tuple([(first, tuple(list(worths))) for first, worths in records])
            self.assertEqual(picture_but(array, records, lot), picture_but(array, again, tuple(list(lot))))


class ShowsPictureButTest(unittest.TestCase):

    def test_with_ghosts_of_the_others(self):
        source = random.Random(205)
        for array in arrays(205):
            picture, liars, records = with_lies(source, array, 1 if len(array.ears) > 1 else 0)
            for ghost in ghosts(without(array, liars)):
                self.assertIs(shows_picture_but(array, records, liars, added(picture, ghost)), True)

    def test_near_values(self):
        source = random.Random(206)
        for array in (LINE, FOUR, FIVE, SQUARE):
            picture, liars, records = with_lies(source, array, 1)
            self.assertIs(shows_picture_but(array, records, liars, picture), True)
            self.assertIs(shows_picture_but(array, records, (), picture), False)
            for way in range(len(picture)):
                for by in (ONE, whole_row(3, -2), whole_row(0, 1, 1)):
                    other = [*picture[:way], sum_of(picture[way], by), *picture[way + 1:]]
                    want = heard_slowly(without(array, liars), other) == rest_of(array, records, liars)
                    self.assertIs(shows_picture_but(array, records, liars, tuple(other)), want)

    def test_none(self):
        for array, records in cases(207, 6):
            for lot in lots_of(array, min(2, len(array.ears) - 1)):
                want = picture_without(array, records, lot) is None
                self.assertIs(shows_picture_but(array, records, lot, None), want)

    def test_other_values(self):
        picture = (ONE, whole_row(2, 3))
        records = heard_slowly(LINE, picture)
        for value in wrong_tuples(picture) + [(ONE, ONE, ONE), records, LINE, {"a": 1}]:
            if value is not None:
                self.assertIs(shows_picture_but(LINE, records, ("b",), value), False, value)
        self.assertIs(shows_picture_but(value=picture, names=("a", "b"), records=records, array=LINE), True)


class StoriesTest(unittest.TestCase):

    def test_as_going_through_all_lots_tells(self):
        lengths = set()
        for array, records in cases(208):
            for most in numbers_of(array):
                told = stories(array, records, most)
                self.assertEqual(told, least_slowly(array, records, most))
                self.assertEqual({type(one) for one in (told, *told)}, {tuple})
                lengths |= {(len(told) > 0, len(lot)) for lot in told} | {(len(told) > 0, None)}
        self.assertLessEqual({(False, None), (True, 0), (True, 1), (True, 2), (True, 3)}, lengths)

    def test_all_eight_ears(self):
        source = random.Random(209)
        for array in (EIGHT, EIGHT_SIX):
            for many in (0, 1, 2, 3):
                _, liars, records = with_lies(source, array, many)
                for most in (0, 2, 4, 7):
                    told = stories(array, records, most)
                    self.assertEqual(told, least_slowly(array, records, most))
                    if many <= most:
                        self.assertTrue(any([set(lot) <= set(liars) for lot in told]))

    def test_none_need_lie(self):
        source = random.Random(210)
        for array in arrays(210):
            records = heard_slowly(array, random_picture(source, array, 3))
            for most in numbers_of(array):
                self.assertEqual(stories(array, records, most), ((),))

    def test_too_few(self):
        self.assertEqual(stories(FOUR, (ONE, NOTHING, NOTHING, ONE), 0), ())
        self.assertEqual(stories(FOUR, (ONE, NOTHING, NOTHING, ONE), 1), ())
        self.assertEqual(stories(ONE_PLACE, (ONE, later(ONE, 1), later(ONE, 2)), 1), ())
        self.assertEqual(stories(ONE_PLACE, (ONE, later(ONE, 1), later(ONE, 2)), 2), (("a", "b"), ("a", "c"), ("b", "c")))

    def test_each_ear_of_a_least_lot_lies_by_whatever_picture(self):
        for array, records in cases(211, 6):
            most = min(2, len(array.ears) - 1)
            for lot in stories(array, records, most):
                picture = picture_but(array, records, lot)
                for ghost in [(NOTHING,) * len(array.ways), *ghosts(without(array, lot))]:
                    self.assertEqual(liars_by(array, records, added(picture, ghost)), lot)

    def test_by_name(self):
        records = heard(FOUR, (ONE, NOTHING))
        self.assertEqual(stories(most=1, records=(NOTHING, ONE, NOTHING, ONE), array=FOUR), ())
        self.assertEqual(stories(most=1, records=(*records[:3], NOTHING), array=FOUR), (("d",),))


class WordsTest(unittest.TestCase):

    def test_beside_pictures_that_fit(self):
        seen = {"true": 0, "lying": 0, "open": 0, "none": 0}
        for array, records in cases(212, 8):
            for most in numbers_of(array):
                words = [word_of_one(array, records, most, name) for name in array.names]
                self.assertEqual(words, words_slowly(array, records, most), (array.text, records, most))
                for word in words:
                    seen[word] += 1
        self.assertGreater(min(seen.values()), 50, seen)

    def test_surely_beside_the_words(self):
        for array, records in cases(213, 6):
            for most in numbers_of(array):
                words = dict(zip(array.names, words_slowly(array, records, most)))
                for look, word in ((surely_lying, "lying"), (surely_true, "true")):
                    told = look(array, records, most)
                    self.assertEqual(told, tuple([name for name in array.names if words[name] == word]))
                    self.assertEqual((type(told), told), (tuple, tuple(sorted(told))))

    def test_all_eight_ears(self):
        source = random.Random(214)
        for array, most in ((EIGHT, 2), (EIGHT, 3), (EIGHT_SIX, 1), (EIGHT_SIX, 2)):
            _, _, records = with_lies(source, array, min(most, 2))
            words = words_slowly(array, records, most)
            self.assertEqual([word_of_one(array, records, most, name) for name in array.names], words)
            self.assertEqual(len(surely_lying(array, records, most)), words.count("lying"))

    def test_open_where_the_loss_of_an_ear_leaves_a_ghost(self):
        records = heard(TWO, (ONE, ONE))
        self.assertEqual([word_of_one(TWO, records, 1, name) for name in "ab"], ["open", "open"])
        self.assertEqual([word_of_one(TWO, records, 0, name) for name in "ab"], ["true", "true"])
        # d alone tells the third way there; without it, what d hears is free.
        records = heard(SQUARE, (whole_row(0, 1, 2), whole_row(3, 1), ONE))
        self.assertEqual([word_of_one(SQUARE, records, 1, name) for name in "abcd"], ["true", "true", "true", "open"])
        # It is free up to 1 -1: the sum of what it writes down is what it was.
        self.assertEqual(word_of_one(SQUARE, (*records[:3], whole_row(7, 5)), 1, "d"), "open")
        self.assertEqual(word_of_one(SQUARE, (*records[:3], whole_row(7, 4)), 1, "d"), "lying")

    def test_known_ones(self):
        records = heard(FOUR, (ONE, NOTHING))
        lies = (records[0], whole_row(5, 1), *records[2:])
        self.assertEqual([word_of_one(FOUR, lies, 1, name) for name in "abcd"], ["true", "lying", "true", "true"])
        self.assertEqual([word_of_one(FOUR, lies, 0, name) for name in "abcd"], ["none"] * 4)
        self.assertEqual([word_of_one(FOUR, lies, 2, name) for name in "abcd"], ["open"] * 4)
        self.assertEqual(word_of_one(name="b", most=1, records=lies, array=FOUR), "lying")
        self.assertEqual(surely_lying(most=1, records=lies, array=FOUR), ("b",))
        self.assertEqual(surely_true(most=1, records=lies, array=FOUR), ("a", "c", "d"))
        self.assertEqual([surely_lying(FOUR, lies, 0), surely_true(FOUR, lies, 0)], [(), ()])

    def test_one_ear(self):
        self.assertEqual(word_of_one(ONE_EAR, (ONE,), 0, "a"), "true")
        self.assertEqual([surely_true(ONE_EAR, (ONE,), 0), surely_lying(ONE_EAR, (ONE,), 0)], [("a",), ()])

    def test_most_of_ears_at_one_place(self):
        records = (ONE, ONE, ONE, later(ONE, 1), later(ONE, 1), NOTHING)
        self.assertEqual(surely_lying(SIX_ALIKE, records, 3), ("d", "e", "f"))
        self.assertEqual(surely_true(SIX_ALIKE, records, 3), ("a", "b", "c"))
        self.assertEqual([surely_lying(SIX_ALIKE, records, 4), surely_true(SIX_ALIKE, records, 4)], [("f",), ()])
        self.assertEqual([surely_lying(SIX_ALIKE, records, 5), surely_lying(SIX_ALIKE, records, 2)], [(), ()])


class SoleTest(unittest.TestCase):

    def test_beside_pictures_that_fit(self):
        seen = {"one": 0, "none": 0, "several": 0}
        for array, records in cases(215):
            for most in numbers_of(array):
                found = set(fitting_slowly(array, records, most))
                told = sole(array, records, most)
                self.assertEqual(told, found.pop() if len(found) == 1 else None)
                seen["several" if found else "one" if told is not None else "none"] += 1
        self.assertGreater(min(seen.values()), 30, seen)

    def test_no_more_than_safe_ears_lie(self):
        source = random.Random(216)
        for array in [array for array in arrays(216) if safe(array)]:
            for many in range(safe(array) + 1):
                picture, liars, records = with_lies(source, array, many)
                self.assertEqual(sole(array, records, safe(array)), picture)
                self.assertEqual(surely_lying(array, records, safe(array)), liars)
                self.assertEqual(surely_true(array, records, safe(array)),
                                 tuple([name for name in array.names if name not in liars]))

    def test_the_same_picture_for_several_lots(self):
        picture = (whole_row(0, 1, 2), ONE, whole_row(4, -3))
        records = heard(SEVEN, picture)
        self.assertEqual([sole(SEVEN, records, most) for most in range(7)], [picture] * 5 + [None] * 2)

    def test_known_ones(self):
        records = heard(FOUR, (ONE, NOTHING))
        lies = (records[0], whole_row(5, 1), *records[2:])
        self.assertEqual([sole(FOUR, lies, most) for most in range(4)], [None, (ONE, NOTHING), None, None])
        self.assertEqual(sole(most=0, records=records, array=FOUR), (ONE, NOTHING))
        self.assertIsNone(sole(THREE_WAYS, (NOTHING, NOTHING), 0))
        self.assertEqual(sole(TWO, (NOTHING, NOTHING), 0), (NOTHING, NOTHING))


class SafeTest(unittest.TestCase):

    def test_half_of_spare(self):
        seen = set()
        for array in arrays(217, 30):
            told = safe(array)
            self.assertEqual(told, spare(array) // 2 if is_all_told(array) else None)
            self.assertIn(type(told), (int, type(None)))
            seen.add(told)
        self.assertLessEqual({None, 0, 1, 2}, seen)

    def test_known_ones(self):
        self.assertEqual([safe(array) for array in (TWO, LINE, FOUR, FIVE, ONE_WAY, SIX_ALIKE, EIGHT, SEVEN)], [0, 0, 1, 1, 1, 2, 2, 2])
        self.assertEqual([safe(array) for array in (THREE_WAYS, ONE_EAR, ONE_PLACE, MORE_WAYS)], [None] * 4)
        self.assertEqual(safe(array=FOUR), 1)

    def test_two_pictures_fit_with_one_more(self):
        """A picture and another one, which all but a least loss hear alike: each half of these lies by one of them."""
        for array in arrays(218):
            if safe(array) is None or safe(array) + 1 >= len(array.ears):
                continue
            lot = min(least_losses(array), key=len)
            left, right = lot[:len(lot) // 2], lot[len(lot) // 2:]
            one = tuple([whole_row(k, 1, 2) for k in range(len(array.ways))])
            hidden = ghosts(without(array, lot))[0] if len(lot) < len(array.ears) else (ONE,) * len(array.ways)
            other = added(one, hidden)
            records = tuple([
                b if name in left else a for name, a, b in zip(array.names, heard(array, one), heard(array, other))
            ])
            self.assertEqual([liars_by(array, records, picture) for picture in (one, other)], [left, right])
            self.assertEqual(max(len(left), len(right)), safe(array) + 1)
            for picture, lies in ((one, left), (other, right)):
                self.assertIs(shows_picture_but(array, records, lies, picture), True)
            self.assertIsNone(sole(array, records, safe(array) + 1))

    def test_two_always_can_fit_with_ghosts(self):
        source = random.Random(219)
        for array in [array for array in arrays(219) if safe(array) is None]:
            records = heard_slowly(array, random_picture(source, array, 3))
            for most in numbers_of(array):
                self.assertIsNone(sole(array, records, most))
                self.assertGreater(len(set(fitting_slowly(array, records, most))), 1)


class OthersTest(unittest.TestCase):

    def test_values_stay_as_they_are(self):
        for array, records in cases(220, 3)[:30]:
            before = (array.text, repr(records))
            stories(array, records, len(array.ears) - 1), surely_true(array, records, 0), safe(array)
            sole(array, records, len(array.ears) - 1), picture_but(array, records, array.names[1:])
            self.assertEqual((array.text, repr(records)), before)

    def test_equal_calls(self):
        for array, records in cases(221, 3)[:20]:
            for look in (stories, surely_lying, surely_true, sole):
                for most in numbers_of(array):
                    self.assertEqual(look(array, records, most), look(array, records, most))

    def test_great_numbers(self):
        """What was told is handed in again, worths and all."""
        source = random.Random(222)
        great = random_something(source, 6, 999999999, (999999929, 999999937))
        picture = (great, later(great, 3))
        records = heard(FOUR, picture)
        again = heard(FOUR, sole(FOUR, (records[0], NOTHING, *records[2:]), 1))
        self.assertEqual(again, records)
        self.assertEqual(stories(FOUR, (*again[:3], sum_of(again[3], great)), 1), (("d",),))

    def test_every_pair_of_words_and_lots(self):
        """An ear in no story that fits is true in those; one in all of them lies by each of them."""
        for array, records in cases(223, 4):
            most = min(2, len(array.ears) - 1)
            told = stories(array, records, most)
            for name in surely_lying(array, records, most):
                self.assertTrue(told and all([name in lot for lot in told]))
            for lot, name in itertools.product(told, array.names):
                if name in lot:
                    self.assertIn(word_of_one(array, records, most, name), ("lying", "open"))


if __name__ == "__main__":
    unittest.main()
