"""The examples of the document, as they are written there, and those of README.md."""

import doctest
import os
import unittest

README = os.path.join(os.path.dirname(os.path.dirname(os.path.abspath(__file__))), "README.md")


class ExamplesTest(unittest.TestCase):

    def check(self, name, many):
        failed, tried = doctest.testfile("examples/" + name, package="tests", encoding="utf-8")
        self.assertEqual((failed, tried), (0, many))

    def test_rows(self):
        self.check("section_4.txt", 8)

    def test_division_and_factors(self):
        self.check("section_5.txt", 11)

    def test_arrays(self):
        self.check("section_6.txt", 10)

    def test_matrices(self):
        self.check("section_7.txt", 11)

    def test_pictures(self):
        self.check("section_8.txt", 13)

    def test_choirs(self):
        self.check("section_9.txt", 13)

    def test_needed(self):
        self.check("section_10.txt", 9)

    def test_late(self):
        self.check("section_11.txt", 12)

    def test_lying(self):
        self.check("section_12.txt", 12)

    def test_correlations(self):
        self.check("section_13.txt", 9)

    def test_keeping(self):
        self.check("section_14.txt", 10)

    def test_drawings(self):
        self.check("section_15.txt", 4)

    def test_bench_journals_desk(self):
        self.check("section_16.txt", 6)

    def test_readme(self):
        with open(README, encoding="utf-8") as file:
            parts = file.read().split("```\n")[1::2]
        text = "".join([part for part in parts if part.startswith(">>>")])
        test = doctest.DocTestParser().get_doctest(text, {}, "README.md", README, 0)
        self.assertEqual(doctest.DocTestRunner().run(test), (0, 31))


if __name__ == "__main__":
    unittest.main()
