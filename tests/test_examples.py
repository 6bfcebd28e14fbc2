"""The examples of the document, as they are written there."""

import doctest
import unittest


class ExamplesTest(unittest.TestCase):

    def check(self, name, many):
        failed, tried = doctest.testfile("examples/" + name, package="tests", encoding="utf-8")
        self.assertEqual((failed, tried), (0, many))

    def test_rows(self):
        self.check("section_4.txt", 8)

    def test_division_without_factors(self):
        self.check("section_5.txt", 7)


if __name__ == "__main__":
    unittest.main()
