"""No answer takes long, however large the numbers are. Lines are counted instead of seconds."""

import sys
import unittest

from shortfigures.alike import are_alike, first_drift, first_unlike, is_steady
from shortfigures.ladders import Ladder, show
from shortfigures.ranges import figure_at, forms, hidden, next_figure, place_of, previous_figure, range_of, widest
from shortfigures.sights import needed, numbers_of, only_number
from shortfigures.tells import figures_in, first_untold, tells
from tests.oracle import ROUNDINGS

TALL = (("", 1), ("K", 2 * 10 ** 3), ("M", 2 * 10 ** 6), ("B", 2 * 10 ** 9), ("T", 2 * 10 ** 12), ("Q", 10 ** 18))
MOST_LINES = 20000


def lines_run(act, *args):
    """Return how many lines of Python a call runs. The call is broken off where they are far too many."""
    lines = 0

    def count(_, event, __):
        nonlocal lines
        lines += event == "line"
        if lines > 2 * MOST_LINES:
            raise AssertionError("too many lines")
        return count

    before = sys.gettrace()
    sys.settrace(count)
    try:
        act(*args)
    finally:
        sys.settrace(before)
    return lines


def tall_ladders():
    return [Ladder(TALL, decimals, rounding, carry=carry, least=least) for decimals in (0, 3)
            for rounding in ROUNDINGS for carry in (False, True) for least in (1, 1000)]


class StepsTest(unittest.TestCase):

    def check(self, act, *args):
        lines = lines_run(act, *args)
        self.assertGreater(lines, 0)
        self.assertLessEqual(lines, MOST_LINES, (act, args))

    def test_a_long_loop_would_be_seen(self):
        def slow():
            return [number for number in range(10 ** 18)
                    if number < 0]

        with self.assertRaises(AssertionError):
            lines_run(slow)

    def test_ranges_and_places(self):
        for ladder in tall_ladders():
            for number in (0, 1999, 10 ** 9, 2 * 10 ** 12, 10 ** 18 - 1, 10 ** 18):
                text = show(ladder, number)
                for act in (range_of, next_figure, previous_figure, place_of):
                    self.check(act, ladder, text)
                self.check(hidden, ladder, number)
                self.check(forms, ladder, 0, number)
                self.check(forms, ladder, number, 10 ** 18)
                self.check(widest, ladder, number)
            nines = "9" * 24 + "Q" if ladder.decimals == 0 else "9" * 21 + ".999Q"
            for act in (range_of, next_figure, previous_figure, place_of):
                self.check(act, ladder, nines)
            for place in (0, 2000, 10 ** 9):
                self.check(figure_at, ladder, place)

    def test_pairs_of_ladders(self):
        late = Ladder(TALL[:1] + TALL[5:], 0, "near", least=999)
        ladders = tall_ladders()
        for ladder, other in list(zip(ladders, ladders)) + list(zip(ladders, ladders[1:])) + [(late, ladders[0])]:
            for act in (first_unlike, are_alike, first_untold, tells):
                self.check(act, ladder, other)
                self.check(act, other, ladder)
            self.check(figures_in, ladder, show(ladder, 10 ** 18), other)

    def test_ladders_that_differ_late_or_never(self):
        for rounding in ROUNDINGS:
            ladder = Ladder(TALL, 3, rounding, least=1000)
            for other in (Ladder(TALL, 3, rounding, least=1000), Ladder(TALL[:5], 3, rounding, least=1000),
                          Ladder(TALL[:5] + (("E", 10 ** 18),), 3, rounding, least=1000),
                          Ladder(TALL[:5] + (("Q", 5 * 10 ** 17),), 3, rounding, least=1000)):
                for act in (first_unlike, are_alike, first_untold, tells):
                    self.check(act, ladder, other)
                    self.check(act, other, ladder)

    def test_steady(self):
        for ladder in tall_ladders():
            self.check(first_drift, ladder)
            self.check(is_steady, ladder)

    def test_sights(self):
        ladders = tall_ladders()
        for at in range(len(ladders) - 3):
            sights = tuple((ladder, show(ladder, 10 ** 18)) for ladder in ladders[at:at + 4])
            for act in (numbers_of, only_number, needed):
                self.check(act, sights)


if __name__ == "__main__":
    unittest.main()
