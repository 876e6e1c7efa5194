import unittest

from shortfigures import samples
from shortfigures.ladders import Ladder, show
from shortfigures.samples import sample_ladder


class SamplesTest(unittest.TestCase):

    def test_sample_ladder(self):
        ladder = sample_ladder()
        self.assertIsInstance(ladder, Ladder)
        self.assertEqual(((("", 1), ("K", 1000), ("M", 1000000)), 1, "near", True, 1), ladder.told)
        self.assertIs(True, ladder.carry)
        self.assertEqual("Ladder(3 units, 1 decimals, near)", repr(ladder))
        self.assertEqual("1.1K", show(ladder, 1050))

    def test_equal_for_equal_calls(self):
        self.assertEqual(sample_ladder(), sample_ladder())

    def test_defined_where_it_is_listed(self):
        self.assertEqual("shortfigures.samples", samples.sample_ladder.__module__)


if __name__ == "__main__":
    unittest.main()
