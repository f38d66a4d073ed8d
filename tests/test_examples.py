"""The examples of the interface, as they stand in the document, and those of README.md."""

import doctest
import os
import unittest

TABLES = """
>>> from selfkits.tables import axes, is_growing, power, times, undone
>>> turn = ((1, -1), (1, 1))
>>> [is_growing(turn), is_growing(((1, 1), (0, 2))), power(turn, 2), axes(turn), axes(((2, 1), (0, 2)))]
[True, False, ((0, -2), (2, 0)), 2, None]
>>> [times(turn, (1, 0)), undone(turn, ((1, 1), (0, 1)))]
[(1, 1), ((1, 2), (-1, 2))]
"""

KITS = """
>>> from selfkits.kits import is_kit, met, powered, reach, reached
>>> two = ((2, 0), (0, 2))
>>> block = (two, ((((0, 0), 0), ((0, 1), 0), ((1, 0), 0), ((1, 1), 0)),))
>>> side = (two, ((((0, 0), 0), ((0, 1), 0)),))
>>> [is_kit(block), reach(block), reached(block, 0), len(powered(block, 2)[1][0]), len(met(block, 0, 0, (1, 0))[1])]
[True, 1, (0,), 16, 3]
"""


class ExamplesTest(unittest.TestCase):
    def check(self, text, name):
        """Later sections use names of the ones ahead, so a text holds all sections that are tried together."""
        found = doctest.DocTestParser().get_doctest(text, {}, name, name, 0)
        self.assertGreater(len(found.examples), 0)
        printed = []
        told = doctest.DocTestRunner(verbose=False).run(found, out=printed.append)
        self.assertEqual(told.failed, 0, "".join(printed))

    def test_interface(self):
        self.check(TABLES + KITS, "DOC.md")

    def test_each_section_alone(self):
        self.check(TABLES, "tables.py")
        self.check(KITS, "kits.py")

    def test_readme(self):
        place = os.path.join(os.path.dirname(os.path.abspath(__file__)), os.pardir, "README.md")
        with open(place, encoding="utf-8") as file:
            self.check(file.read().replace("```", ""), "README.md")


if __name__ == "__main__":
    unittest.main()
