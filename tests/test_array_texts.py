"""Texts of arrays and of records: section 6."""

import random
import unittest

from earstogether.arrays import heard, read_array, read_records, records_text
from earstogether.errors import BadArray, BadRecords, NoArray
from tests.array_support import ARRAYS, LINE, NO_ARRAYS, PLANE, array_of, random_array, random_picture, random_records
from tests.support import Thing, assert_refusals, assert_refused, whole_row, wrong_tuples

NOTHING = (0, ())

# Texts with the number of the first line that cannot stand.
NO_TEXTS = (
    ("", 1), ("\n", 1), (" ", 1), ("ear", 1), ("ear ", 1), ("ear a", 1), ("ear a ", 1), ("a 0", 1), ("way 1", 1), ("way", 1),
    ("\near a 0\nway 1", 1), ("way 1\near a 0", 1), ("Ear a 0\nway 1", 1), ("ears a 0\nway 1", 1), (" ear a 0\nway 1", 1),
    ("ear  a 0\nway 1", 1), ("ear a  0\nway 1", 1), ("ear a 0 \nway 1", 1), ("ear a 0  1\nway 1 1", 1), ("ear\ta 0\nway 1", 1),
    ("eara 0\nway 1", 1), ("ear A 0\nway 1", 1), ("ear 1a 0\nway 1", 1), ("ear a-b 0\nway 1", 1), ("ear abcdefghi 0\nway 1", 1),
    ("ear a 11\nway 1", 1), ("ear a -11\nway 1", 1), ("ear a 0 0 0 0\nway 1 1 1 1", 1), ("ear a x\nway 1", 1),
    ("ear a 0.0\nway 1", 1), ("ear a 1/2\nway 1", 1), ("ear a +1\nway 1", 1), ("ear a 01\nway 1", 1), ("ear a -0\nway 1", 1),
    ("ear a 00\nway 1", 1), ("ear a --1\nway 1", 1), ("ear a 1_0\nway 1", 1), ("ear a (0)\nway 1", 1), ("ear a 0,\nway 1", 1),
    ("ear a 99999999999999999999\nway 1", 1), ("ear a " + "1" * 5000 + "\nway 1", 1), ("ear 0\nway 1", 1),
    ("ear a 0", 2), ("ear a 0\n", 2), ("ear a 0\n\n", 2), ("ear a 0\n\nway 1", 2), ("ear a 0\near a 0\nway 1", 2),
    ("ear b 0\near a 0\nway 1", 2), ("ear a 0\near a 1\nway 1", 2), ("ear a 0\near b\nway 1", 2), ("ear a 0\near b 0 0\nway 1", 2),
    ("ear a 0 0\near b 0\nway 1 1", 2), ("ear a 0\near b 11\nway 1", 2), ("ear a 0\nway", 2), ("ear a 0\nway ", 2),
    ("ear a 0\nway 4", 2), ("ear a 0\nway -4", 2), ("ear a 0\nway 1 0", 2), ("ear a 0 0\nway 1", 2), ("ear a 0 0\nway 1 1 1", 2),
    ("ear a 0\nway +1", 2), ("ear a 0\nway 01", 2), ("ear a 0\nway -0", 2), ("ear a 0\nway  1", 2), ("ear a 0\nway 1 ", 2),
    ("ear a 0\nWay 1", 2), ("ear a 0\nways 1", 2), ("ear a 0\n way 1", 2), ("ear a 0\nway a 1", 2), ("ear a 0\nb 1\nway 1", 2),
    ("ear a 0\nway 4\nway 1\nway 1", 2),
    ("ear a 0\near b 1", 3), ("ear a 0\nway 1\n", 3), ("ear a 0\nway 1\nway 1", 3), ("ear a 0\nway 1\nway 4", 3),
    ("ear a 0\nway 1\near b 0", 3), ("ear a 0\nway 1\n\nway 2", 3), ("ear a 0\nway 1\nway", 3), ("ear a 0\nway 1\nway 1 1", 3),
    ("ear a 0 0\nway 1 1\nway 1", 3), ("ear a 0\nway 1\nx", 3), ("ear a 0\nway 1\nway 2\nway 1", 4),
    ("ear a 0\near c 0\near b 0\nway 1", 3), ("ear a 0\near c 0\near c 0\nway 1", 3),
)


def lines_of(ears, ways):
    return ["ear " + "abcdefghi"[k] + " " + str(k) for k in range(ears)] + ["way " + str(k - 3) for k in range(ways)]


class ReadArrayTest(unittest.TestCase):

    def test_each_text_is_read(self):
        source = random.Random(33)
        for array in ARRAYS + tuple([random_array(source, 8, 6, 10, 3) for _ in range(60)]):
            self.assertEqual(read_array(array.text), array)
            self.assertEqual(read_array(array.text).text, array.text)
        self.assertEqual(read_array(text=LINE.text), LINE)

    def test_to_the_bounds(self):
        text = "ear a -10 10 0\near z2345678 10 -10 -9\nway 3 -3 0\nway -3 3 -1"
        self.assertEqual(read_array(text).text, text)

    def test_what_is_no_string(self):
        for value in (None, True, 0, (), [LINE.text], (LINE.text,), LINE, b"ear a 0\nway 1", {}, Thing()):
            self.check(value, 0)

    def check(self, text, number):
        for look in ((lambda: read_array(text)), (lambda: read_array(text=text))):
            with self.assertRaises(BadArray) as caught:
                look()
            self.assertEqual(repr(caught.exception.value), str(number), text)

    def test_texts_that_are_none(self):
        for text, number in NO_TEXTS:
            self.check(text, number)

    def test_eight_ears_and_nine(self):
        self.assertEqual(len(read_array("\n".join(lines_of(8, 1))).ears), 8)
        self.check("\n".join(lines_of(9, 1)), 9)
        self.check("\n".join(lines_of(9, 0)), 9)
        self.check("\n".join(lines_of(8, 0)), 9)

    def test_six_ways_and_seven(self):
        self.assertEqual(len(read_array("\n".join(lines_of(8, 6))).ways), 6)
        self.check("\n".join(lines_of(8, 7)), 15)
        self.check("\n".join(lines_of(2, 7)), 9)

    def test_names_of_eight_and_nine_signs(self):
        self.assertEqual(read_array("ear abcdefgh 0\nway 1").names, ("abcdefgh",))
        self.check("ear a 0\near abcdefghi 0\nway 1", 2)

    def test_lines_exchanged_left_out_and_twice(self):
        lines = ["ear a 0 1", "ear b 1 1", "ear c 2 0", "way 1 0", "way 0 1"]
        self.assertEqual(read_array("\n".join(lines)).text.split("\n"), lines)
        for k in range(5):
            twice = lines[:k + 1] + lines[k:]
            self.check("\n".join(twice), k + 2)
            left = lines[:k] + lines[k + 1:]
            self.assertEqual(read_array("\n".join(left)).text.split("\n"), left)
        for k, number in ((0, 2), (1, 3), (2, 4)):
            exchanged = lines[:k] + [lines[k + 1], lines[k]] + lines[k + 2:]
            self.check("\n".join(exchanged), number)
        self.assertEqual(read_array("\n".join(lines[:3] + lines[:2:-1])).ways, ((0, 1), (1, 0)))
        self.check("\n".join(lines[3:]), 1)
        self.check("\n".join(lines[:3]), 4)

    def test_a_line_feed_at_the_end(self):
        for array in ARRAYS:
            self.check(array.text + "\n", len(array.ears) + len(array.ways) + 1)


class RecordsTextTest(unittest.TestCase):

    def test_texts(self):
        records = (whole_row(0, 1, 2), NOTHING, whole_row(-3, -1))
        self.assertEqual(records_text(LINE, records), "a 0: 1 2\nb -\nc -3: -1")
        self.assertEqual(records_text(records=records, array=LINE), "a 0: 1 2\nb -\nc -3: -1")
        self.assertEqual(read_records(LINE, "a 0: 1 2\nb -\nc -3: -1"), records)
        self.assertEqual(read_records(text="a 0: 1 2\nb -\nc -3: -1", array=LINE), records)
        self.assertEqual(records_text(array_of((3,), (1,)), (NOTHING,)), "a -")

    def test_there_and_back(self):
        source = random.Random(34)
        for array in ARRAYS:
            for _ in range(5):
                for records in (random_records(source, array), heard(array, random_picture(source, array))):
                    text = records_text(array, records)
                    self.assertEqual(len(text.split("\n")), len(array.ears))
                    self.assertEqual(repr(read_records(array, text)), repr(records))

    def test_great_numbers(self):
        records = (whole_row(0, 7 ** 9000), NOTHING, whole_row(-3, 1, 5 ** 9000))
        self.assertEqual(read_records(LINE, records_text(LINE, records)), records)

    def test_texts_that_are_none(self):
        texts = (
            "", "\n", "a 0: 1", "a -\nb -", "a -\nb -\nc -\n", "\na -\nb -\nc -", "a -\nb -\nc -\nd -", "a -\nc -\nb -", "a -\na -\nb -",
            "a -\n\nb -\nc -", "b -\na -\nc -", "a -\nb -\nd -", "A -\nb -\nc -", "a -\nb -\nc", "a -\nb -\nc ", "a -\nb -\nc  -",
            "a -\nb -\nc - ", " a -\nb -\nc -", "a  -\nb -\nc -", "a-\nb -\nc -", "a: -\nb -\nc -", "-\n-\n-", "a 0: 0\nb -\nc -",
            "a 0: 1 0\nb -\nc -", "a 0: 01\nb -\nc -", "a 0: 2/4\nb -\nc -", "a 0:1\nb -\nc -", "a 0: 1\nb -\nc 0: 1 ", "a 1\nb -\nc -",
            "a - b - c -", "ear a -\near b -\near c -", "a\t-\nb -\nc -", "ab -\nb -\nc -",
        )
        for text in texts:
            assert_refused(self, BadRecords, text, read_records, LINE, text)
            assert_refused(self, BadRecords, text, read_records, text=text, array=LINE)

    def test_a_text_for_another_array(self):
        text = records_text(PLANE, (NOTHING,) * 3)
        self.assertEqual(read_records(LINE, text), (NOTHING,) * 3)
        assert_refused(self, BadRecords, text, read_records, array_of((0, 1), (1,)), text)
        assert_refused(self, BadRecords, text, read_records, array_of((0, 1, 2, 3), (1,)), text)

    def test_refusals(self):
        records = (whole_row(0, 1, 2), NOTHING, whole_row(-3, -1))
        wrong = {"array": (NoArray, NO_ARRAYS), "records": (BadRecords, wrong_tuples(records))}
        assert_refusals(self, records_text, {"array": LINE, "records": records}, wrong)
        strange = (None, True, 0, (), records, ["a -\nb -\nc -"], ("a -\nb -\nc -",), b"a -\nb -\nc -", {}, LINE, Thing())
        wrong = {"array": (NoArray, NO_ARRAYS), "text": (BadRecords, strange)}
        assert_refusals(self, read_records, {"array": LINE, "text": "a -\nb -\nc -"}, wrong)


if __name__ == "__main__":
    unittest.main()
