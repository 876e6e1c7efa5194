"""The examples of the document, and those of the README."""

import doctest
import pathlib
import unittest

from shortfigures.alike import are_alike, first_drift, first_unlike, is_steady
from shortfigures.ladders import Ladder, is_shown, show, worth
from shortfigures.ranges import figure_at, forms, hidden, next_figure, place_of, previous_figure, range_of, widest
from shortfigures.samples import sample_ladder
from shortfigures.sights import needed, numbers_of, only_number
from shortfigures.tells import figures_in, first_untold, tells

UNITS = (("", 1), ("K", 1000), ("M", 1000000))


class ExamplesTest(unittest.TestCase):

    def test_ladders(self):
        units = (("", 1), ("K", 1000), ("M", 1000000))
        ladder = Ladder(units, 1, "near")
        self.assertEqual(
            ["999", "1.0K", "1.1K", "999.9K", "1.0M", "1000.0K", "9999"],
            [show(ladder, 999), show(ladder, 1049), show(ladder, 1050), show(ladder, 999949), show(ladder, 999950),
             show(Ladder(units, 1, "near", carry=False), 999950), show(Ladder(units, 1, "down", least=10), 9999)])
        self.assertEqual(
            [1000000, False, 500, False, "Ladder(3 units, 1 decimals, near)", 3],
            [worth(ladder, "1000.0K"), is_shown(ladder, "1000.0K"), worth(ladder, "0.5K"), is_shown(ladder, "0.5K"),
             repr(ladder), len(ladder)])

    def test_ranges(self):
        ladder = sample_ladder()
        self.assertEqual(
            [(1000, 1049), (1050, 1149), (999950, 1049999), None, (50, 49), (1050, 1149), (0, 0)],
            [range_of(ladder, "1.0K"), range_of(ladder, "1.1K"), range_of(ladder, "1.0M"),
             range_of(ladder, "1000.0K"), hidden(ladder, 1100), widest(ladder, 999949), widest(ladder, 5)])
        self.assertEqual(
            ["1.0M", "999", None, 1011, "1.0K", 1001],
            [next_figure(ladder, "999.9K"), previous_figure(ladder, "1.0K"), previous_figure(ladder, "0"),
             forms(ladder, 0, 2000), figure_at(ladder, 1000), place_of(ladder, "1.1K")])

    def test_alike(self):
        self.assertEqual(
            [1050, 999950, 999950, True],
            [first_unlike(sample_ladder(), Ladder(UNITS, 1, "even")),
             first_unlike(sample_ladder(), Ladder(UNITS, 1, "near", carry=False)),
             first_unlike(sample_ladder(), Ladder(UNITS[:2], 1, "near")),
             are_alike(sample_ladder(), Ladder(UNITS, 1, "near"))])
        self.assertEqual(
            [True, 999950, 999901],
            [is_steady(sample_ladder()), first_drift(Ladder(UNITS, 1, "near", carry=False)),
             first_drift(Ladder(UNITS, 1, "up", carry=False))])

    def test_tells(self):
        plain = Ladder(UNITS, 0, "near")
        self.assertEqual(
            [(1499, 1500), True, ("1K", "2K"), ("1.5K", "2.5K")],
            [first_untold(sample_ladder(), plain), tells(Ladder(UNITS, 1, "down"), Ladder(UNITS, 0, "down")),
             figures_in(sample_ladder(), "1.5K", plain), figures_in(plain, "2K", sample_ladder())])

    def test_sights(self):
        sights = ((sample_ladder(), "1.5K"), (Ladder(UNITS, 0, "near"), "1K"), (Ladder(UNITS, 0, "up"), "2K"))
        self.assertEqual(
            [(1450, 1499), (0, 1), 1500, None],
            [numbers_of(sights), needed(sights),
             only_number(((Ladder(UNITS, 1, "up"), "1.5K"), (Ladder(UNITS, 1, "down"), "1.5K"))),
             numbers_of(((sample_ladder(), "1.5K"), (sample_ladder(), "1.6K")))])

    def test_readme(self):
        readme = pathlib.Path(__file__).resolve().parent.parent / "README.md"
        failed, tried = doctest.testfile(str(readme), module_relative=False)
        self.assertEqual(0, failed)
        self.assertGreater(tried, 0)


if __name__ == "__main__":
    unittest.main()
