"""The examples of the document, and those of the README."""

import doctest
import pathlib
import unittest

from shortfigures.ladders import Ladder, is_shown, show, worth


class ExamplesTest(unittest.TestCase):

    def test_ladders(self):
        units = (("", 1), ("K", 1000), ("M", 1000000))
        ladder = Ladder(units, 1, "near")
        self.assertEqual(
            ["999", "1.0K", "1.1K", "999.9K", "1.0M", "1000.0K", "9999"],
            [show(ladder, 999), show(ladder, 1049), show(ladder, 1050), show(ladder, 999949), show(ladder, 999950),
             show(Ladder(units, 1, "near", carry=False), 999950), show(Ladder(units, 1, "down", least=10), 9999)])
        self.assertEqual(
            [1000000, False, 500, False, "Ladder(3 units, 1 decimals, near)", 3],
            [worth(ladder, "1000.0K"), is_shown(ladder, "1000.0K"), worth(ladder, "0.5K"), is_shown(ladder, "0.5K"),
             repr(ladder), len(ladder)])

    def test_readme(self):
        readme = pathlib.Path(__file__).resolve().parent.parent / "README.md"
        failed, tried = doctest.testfile(str(readme), module_relative=False)
        self.assertEqual(0, failed)
        self.assertGreater(tried, 0)


if __name__ == "__main__":
    unittest.main()
