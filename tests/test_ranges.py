"""Ranges, what is hidden in them, and the figures beside a figure."""

import unittest

from shortfigures import ranges
from shortfigures.errors import InvalidFigure, InvalidNumber, NeverShown, NotALadder
from shortfigures.ladders import Ladder, is_shown, show
from shortfigures.ranges import hidden, next_figure, previous_figure, range_of
from tests.oracle import (
    LARGE, LONG, ROUNDINGS, SMALL, THOUSANDS, rules, runs, shown, step_of, telling_numbers, written)
from tests.test_show import made
from tests.values import NO_FIGURES, NO_LADDERS, NO_NUMBERS, UNSHOWN, ErrorCase

NEAR = Ladder(THOUSANDS, 1, "near")
FINE = Ladder((("", 1), ("K", 2000), ("M", 6000000)), 3, "near")
LAST = 3000


class RangeOfTest(unittest.TestCase):

    def test_ordinary_figures(self):
        self.assertEqual([(0, 0), (999, 999), (1000, 1049), (1050, 1149), (999850, 999949), (999950, 1049999)],
                         [range_of(NEAR, text) for text in ("0", "999", "1.0K", "1.1K", "999.9K", "1.0M")])

    def test_roundings(self):
        for rounding, low, middle, high in (
                ("down", (1000, 1099), (1500, 1599), (999900, 999999)),
                ("up", (1000, 1000), (1401, 1500), (999801, 999900)),
                ("near", (1000, 1049), (1450, 1549), (999850, 999949)),
                ("even", (1000, 1050), (1451, 1549), (999851, 999949))):
            ladder = Ladder(THOUSANDS, 1, rounding)
            self.assertEqual([low, middle, high], [range_of(ladder, text) for text in ("1.0K", "1.5K", "999.9K")])
        self.assertEqual((1550, 1650), range_of(Ladder(THOUSANDS, 1, "even"), "1.6K"))

    def test_carry(self):
        for rounding, low, high in (("down", 10 ** 6, 1099999), ("up", 999901, 10 ** 6), ("near", 999950, 1049999),
                                    ("even", 999950, 1050000)):
            self.assertEqual((low, high), range_of(Ladder(THOUSANDS, 1, rounding), "1.0M"))
            self.assertEqual((10 ** 6, high), range_of(Ladder(THOUSANDS, 1, rounding, carry=False), "1.0M"))
            self.assertIsNone(range_of(Ladder(THOUSANDS, 1, rounding), "1000.0K"))
            self.assertEqual(None if rounding == "down" else (low, 999999),
                             range_of(Ladder(THOUSANDS, 1, rounding, carry=False), "1000.0K"))

    def test_least(self):
        ladder = Ladder(THOUSANDS, 1, "near", least=10)
        self.assertEqual([(9999, 9999), (10000, 10049), (9999850, 9999949), (9999950, 10049999), None, None],
                         [range_of(ladder, text) for text in ("9999", "10.0K", "9999.9K", "10.0M", "10000", "9.9K")])
        ladder = Ladder(THOUSANDS, 1, "up", carry=False, least=1000)
        self.assertEqual([(10 ** 9 - 99, 10 ** 9 - 1), (10 ** 9, 10 ** 9), None],
                         [range_of(ladder, text) for text in ("1000000.0K", "1000.0M", "999.9M")])

    def test_smallest_steps(self):
        units = (("", 1), ("A", 2), ("B", 6))
        for rounding, expected in (
                ("down", [(1, 1), (2, 3), (4, 5), None, (6, 11), (12, 17)]),
                ("up", [(1, 1), (2, 2), (3, 4), None, (5, 6), (7, 12)]),
                ("near", [(1, 1), (2, 2), (3, 4), None, (5, 8), (9, 14)]),
                ("even", [(1, 1), (2, 2), (3, 5), None, (6, 8), (9, 15)])):
            ladder = Ladder(units, 0, rounding)
            self.assertEqual(expected, [range_of(ladder, text) for text in ("1", "1A", "2A", "3A", "1B", "2B")])
        self.assertEqual([(2, 2), (3, 4), (5, 5), (6, 8)],
                         [range_of(Ladder(units, 0, "near", carry=False), text) for text in ("1A", "2A", "3A", "1B")])
        self.assertEqual([(2, 2), (3, 5), None, (6, 8)],
                         [range_of(Ladder(units, 0, "even", carry=False), text) for text in ("1A", "2A", "3A", "1B")])

    def test_never_shown(self):
        for text in UNSHOWN + ("9" * 24, "9" * 23 + ".9K"):
            self.assertIsNone(range_of(NEAR, text), text)
        for text in ("0K", "1000K", "0M", "1000"):
            for rounding in ROUNDINGS:
                self.assertIsNone(range_of(Ladder(THOUSANDS, 0, rounding), text), text)

    def test_marks_with_24_digits(self):
        nines = 10 ** 24 - 1
        self.assertEqual((nines, nines), range_of(Ladder((("x", 1),), 3, "even"), "9" * 24 + "x"))
        self.assertEqual((10 ** 23, 10 ** 23), range_of(Ladder((("", 1),), 0, "up"), "1" + "0" * 23))
        text = "9" * 23 + ".9M"
        for rounding, low, high in (("down", 0, 99999), ("up", -99999, 0), ("near", -50000, 49999),
                                    ("even", -49999, 49999)):
            self.assertEqual((nines * 10 ** 5 + low, nines * 10 ** 5 + high),
                             range_of(Ladder(THOUSANDS, 1, rounding), text))
        self.assertEqual((nines * 6000 - 3000, nines * 6000 + 2999), range_of(FINE, "9" * 21 + ".999M"))

    def test_ends_beyond_the_largest_number(self):
        self.assertEqual((10 ** 18 - 50000, 10 ** 18 + 49999), range_of(NEAR, "1" + "0" * 12 + ".0M"))
        self.assertEqual((10 ** 18, 2 * 10 ** 18 - 1), range_of(Ladder(LONG, 0, "down"), "1Q"))
        self.assertEqual((10 ** 18 - 5 * 10 ** 11, 15 * 10 ** 17 - 1), range_of(Ladder(LONG, 0, "near"), "1Q"))
        self.assertEqual((10 ** 18 - 5 * 10 ** 11, 10 ** 18 - 1),
                         range_of(Ladder(LONG, 0, "near", carry=False), "1000000T"))
        self.assertEqual((10 ** 21 - 10 ** 12 + 1, 10 ** 21), range_of(Ladder(LONG, 0, "up", least=1000), "1000Q"))
        self.assertEqual((10 ** 18 + 1, 10 ** 18 + 1), range_of(Ladder((("", 1),), 0, "up"), "1000000000000000001"))

    def test_beside_going_through_the_numbers(self):
        for rule in rules(SMALL, (1, 2, 3, 7)):
            ladder = made(rule)
            seen = {text: (low, high) for text, low, high in runs(rule, LAST)}
            for place in range(len(rule[0])):
                step = step_of(rule, place)
                # Behind these marks, numbers behind the last one might be shown by the figure.
                for mark in range(LAST // step - 2):
                    text = written(rule, place, mark)
                    if range_of(ladder, text) != seen.get(text):
                        self.fail((rule, text, range_of(ladder, text), seen.get(text)))

    def test_beside_showing_the_ends_of_large_ranges(self):
        for rule in rules(LARGE, (1, 3, 999)):
            ladder = made(rule)
            for number in telling_numbers(rule)[::5]:
                text = shown(rule, number)
                low, high = range_of(ladder, text)
                self.assertTrue(0 <= low <= number <= high)
                self.assertTrue(shown(rule, low) == text == shown(rule, high), (rule, text))
                self.assertTrue(low == 0 or shown(rule, low - 1) != text, (rule, text))
                self.assertTrue(shown(rule, high + 1) != text, (rule, text))

    def test_marks_with_24_digits_beside_showing_the_ends(self):
        for rule in rules(SMALL + LARGE, (1, 1000)):
            ladder, last = made(rule), len(rule[0]) - 1
            for mark in (10 ** 23, 10 ** 23 + 1, 10 ** 24 - 2, 10 ** 24 - 1):
                text = written(rule, last, mark)
                low, high = range_of(ladder, text)
                self.assertEqual([text, text], [shown(rule, number) for number in (low, high)])
                self.assertNotIn(text, [shown(rule, number) for number in (low - 1, high + 1)])
                for place in range(last):
                    self.assertIsNone(range_of(ladder, written(rule, place, mark)))

    def test_figures_at_the_ends_of_units(self):
        for rule in rules(LARGE, (1, 2, 1000)):
            ladder = made(rule)
            for place in range(1, len(rule[0])):
                at_threshold = rule[0][place][1] * rule[4] // step_of(rule, place - 1)
                for mark in (at_threshold - 2, at_threshold - 1, at_threshold, at_threshold + 1):
                    text = written(rule, place - 1, mark)
                    self.assertIs(is_shown(ladder, text), range_of(ladder, text) is not None, (rule, text))
                    middle = mark * step_of(rule, place - 1)
                    if text in (shown(rule, middle), shown(rule, middle - 1)):
                        self.assertIsNotNone(range_of(ladder, text), (rule, text))

    def test_by_keyword(self):
        self.assertEqual((1000, 1049), range_of(text="1.0K", ladder=NEAR))
        self.assertEqual((1000, 1049), range_of(NEAR, text="1.0K"))


class HiddenTest(unittest.TestCase):

    def test_ordinary_numbers(self):
        self.assertEqual([(0, 0), (0, 0), (0, 49), (49, 0), (0, 99), (50, 49), (99, 0), (0, 50049), (50, 49999)],
                         [hidden(NEAR, number)
                          for number in (0, 999, 1000, 1049, 1050, 1100, 1149, 999950, 1000000)])

    def test_beyond_the_largest_number(self):
        self.assertEqual((50000, 49999), hidden(NEAR, 10 ** 18))
        self.assertEqual((0, 10 ** 18 - 1), hidden(Ladder(LONG, 0, "down"), 10 ** 18))
        self.assertEqual((5 * 10 ** 11, 5 * 10 ** 17 - 1), hidden(Ladder(LONG, 0, "near"), 10 ** 18))
        self.assertEqual((5 * 10 ** 11 - 1, 5 * 10 ** 17), hidden(Ladder(LONG, 0, "near"), 10 ** 18 - 1))

    def test_beside_going_through_the_numbers(self):
        for rule in rules(SMALL, (1, 3)):
            ladder = made(rule)
            for _, low, high in runs(rule, LAST):
                for number in {low, (low + high) // 2, high}:
                    if hidden(ladder, number) != (number - low, high - number):
                        self.fail((rule, number, hidden(ladder, number)))

    def test_beside_showing_large_numbers(self):
        for rule in rules(LARGE, (1, 10)):
            ladder = made(rule)
            for number in telling_numbers(rule)[::7]:
                text = shown(rule, number)
                below, above = hidden(ladder, number)
                self.assertTrue(0 <= below <= number and 0 <= above)
                self.assertTrue(shown(rule, number - below) == text == shown(rule, number + above), (rule, number))
                self.assertTrue(number == below or shown(rule, number - below - 1) != text, (rule, number))
                self.assertTrue(shown(rule, number + above + 1) != text, (rule, number))

    def test_by_keyword(self):
        self.assertEqual((50, 49), hidden(number=1100, ladder=NEAR))


class NeighboursTest(unittest.TestCase):

    def test_ordinary_figures(self):
        for order in (("998", "999", "1.0K", "1.1K", "1.2K"), ("999.8K", "999.9K", "1.0M", "1.1M"), ("0", "1", "2")):
            for text, other in zip(order, order[1:]):
                self.assertEqual(other, next_figure(NEAR, text))
                self.assertEqual(text, previous_figure(NEAR, other))

    def test_nothing_before_the_first_figure(self):
        for rule in rules(SMALL + LARGE, (1, 1000)):
            ladder, first = made(rule), "0" + rule[0][0][0]
            self.assertIsNone(previous_figure(ladder, first))
            self.assertEqual(first, previous_figure(ladder, "1" + rule[0][0][0]))

    def test_without_carry(self):
        ladder = Ladder(THOUSANDS, 1, "near", carry=False)
        self.assertEqual(["1000.0K", "1.0M", "1000.0K", "999.9K"],
                         [next_figure(ladder, "999.9K"), next_figure(ladder, "1000.0K"),
                          previous_figure(ladder, "1.0M"), previous_figure(ladder, "1000.0K")])

    def test_beyond_24_digits(self):
        self.assertEqual("1" + "0" * 24, next_figure(Ladder((("", 1),), 0, "up"), "9" * 24))
        self.assertEqual("1" + "0" * 23 + ".0M", next_figure(NEAR, "9" * 23 + ".9M"))
        self.assertEqual("9" * 23 + ".8M", previous_figure(NEAR, "9" * 23 + ".9M"))
        self.assertEqual("1" + "0" * 21 + ".000M", next_figure(FINE, "9" * 21 + ".999M"))

    def test_beside_going_through_the_numbers(self):
        for rule in rules(SMALL, (1, 3)):
            ladder = made(rule)
            order = [text for text, _, _ in runs(rule, LAST)]
            for text, other in zip(order, order[1:]):
                if next_figure(ladder, text) != other or previous_figure(ladder, other) != text:
                    self.fail((rule, text, other))

    def test_beside_showing_large_numbers(self):
        for rule in rules(LARGE, (1, 7)):
            ladder = made(rule)
            for number in telling_numbers(rule)[::9]:
                text = shown(rule, number)
                low, high = range_of(ladder, text)
                self.assertEqual(shown(rule, high + 1), next_figure(ladder, text))
                self.assertEqual(None if low == 0 else shown(rule, low - 1), previous_figure(ladder, text))

    def test_by_keyword(self):
        self.assertEqual("1.1K", next_figure(text="1.0K", ladder=NEAR))
        self.assertEqual("999", previous_figure(text="1.0K", ladder=NEAR))


class WrongArgumentsTest(ErrorCase):

    def test_no_ladder(self):
        for value in NO_LADDERS:
            with self.subTest(value=value):
                for act in (range_of, next_figure, previous_figure):
                    for text in ("1.0K", "0.5K", "no", None, value):
                        self.assert_value(NotALadder, value, act, value, text)
                    self.assert_value(NotALadder, value, act, text="no", ladder=value)
                for number in (5, -1, None, value):
                    self.assert_value(NotALadder, value, hidden, value, number)
                self.assert_value(NotALadder, value, hidden, number=-1, ladder=value)

    def test_no_figure(self):
        for value in NO_FIGURES:
            with self.subTest(value=value):
                for act in (range_of, next_figure, previous_figure):
                    self.assert_value(InvalidFigure, value, act, NEAR, value)
                    self.assert_value(InvalidFigure, value, act, text=value, ladder=NEAR)

    def test_figures_with_25_digits_that_are_returned_cannot_be_passed(self):
        text = next_figure(NEAR, "9" * 23 + ".9M")
        for act in (range_of, next_figure, previous_figure):
            self.assert_value(InvalidFigure, text, act, NEAR, text)

    def test_figures_that_are_not_shown(self):
        for text in UNSHOWN:
            with self.subTest(text=text):
                for act in (next_figure, previous_figure):
                    self.assert_value(NeverShown, text, act, NEAR, text)
                    self.assert_value(NeverShown, text, act, text=text, ladder=NEAR)

    def test_no_number(self):
        for value in NO_NUMBERS:
            with self.subTest(value=value):
                self.assert_value(InvalidNumber, value, hidden, NEAR, value)
                self.assert_value(InvalidNumber, value, hidden, number=value, ladder=NEAR)

    def test_the_largest_number_is_let(self):
        self.assertEqual("1000000000000.0M", show(NEAR, 10 ** 18))
        self.assertEqual((50000, 49999), hidden(NEAR, 10 ** 18))

    def test_defined_where_they_are_listed(self):
        for name in ("range_of", "hidden", "next_figure", "previous_figure", "forms", "figure_at", "place_of",
                     "widest"):
            self.assertEqual("shortfigures.ranges", getattr(ranges, name).__module__)


if __name__ == "__main__":
    unittest.main()
