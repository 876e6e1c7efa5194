"""Counting figures, places of figures, and the widest ranges."""

import random
import unittest

from shortfigures.errors import InvalidFigure, InvalidNumber, InvalidPlace, NeverShown, NotALadder
from shortfigures.ladders import Ladder
from shortfigures.ranges import figure_at, forms, place_of, range_of, widest
from tests.oracle import (
    LARGE, LONG, ROUNDINGS, SMALL, THOUSANDS, placed, rules, runs, shown, step_of, telling_numbers, texts,
    threshold_of)
from tests.test_show import made
from tests.values import NO_FIGURES, NO_LADDERS, NO_NUMBERS, UNSHOWN, ErrorCase, odd_values

NEAR = Ladder(THOUSANDS, 1, "near")
ONE = Ladder((("x", 1),), 2, "up")
LAST = 3000


def marks_of_unit(rule, place):
    """Return the first and the last mark of a unit that is not the last one, as the tests show its ends."""
    low, end = threshold_of(rule, place), threshold_of(rule, place + 1)
    number = end - 1
    while placed(rule, number)[0] != place:
        # Carried numbers are fewer than a step.
        number = max(end - step_of(rule, place), number - max(1, step_of(rule, place) // 2))
    return placed(rule, low)[1], placed(rule, number)[1]


def own_place(rule, number):
    """Return how many figures are shown before that of a number, counted by the tests' own showing."""
    unit, mark = placed(rule, number)
    ends = [marks_of_unit(rule, place) for place in range(unit)]
    first = placed(rule, threshold_of(rule, unit))[1]
    return sum(high - low + 1 for low, high in ends) + mark - first


class FormsTest(unittest.TestCase):

    def test_within_a_figure(self):
        for low, high in ((0, 0), (7, 7), (1000, 1049), (1001, 1002), (1050, 1149), (999950, 1049999),
                          (999999, 1000001), (10 ** 18 - 50000, 10 ** 18), (10 ** 18, 10 ** 18)):
            self.assertEqual(1, forms(NEAR, low, high))

    def test_across_figures_and_thresholds(self):
        self.assertEqual([2, 2, 2, 3, 1000, 1001, 1001, 1002, 2, 1, 3],
                         [forms(NEAR, *ends) for ends in (
                             (0, 1), (999, 1000), (1049, 1050), (1049, 1150), (0, 999), (0, 1000), (0, 1049), (0, 1050),
                             (999949, 999950), (999950, 10 ** 6), (999849, 999950))])
        # 1000 figures of the first unit, from 1.0K to 999.9K, and from 1.0M on.
        self.assertEqual(1000 + 9990 + 1, forms(NEAR, 0, 10 ** 6))
        self.assertEqual(1000 + 9991 + 1, forms(Ladder(THOUSANDS, 1, "near", carry=False), 0, 10 ** 6))
        self.assertEqual(1000 + 9990 + 1, forms(Ladder(THOUSANDS, 1, "down", carry=False), 0, 10 ** 6))
        self.assertEqual(2, forms(NEAR, 999949, 10 ** 6))

    def test_up_to_the_largest_number(self):
        self.assertEqual(10 ** 18 + 1, forms(ONE, 0, 10 ** 18))
        self.assertEqual(10 ** 18, forms(ONE, 1, 10 ** 18))
        self.assertEqual(1000 + 9990 + 10 ** 13 - 9, forms(NEAR, 0, 10 ** 18))
        # Five units with the marks 100 to 99999, the last but one up to 99999999, and 1.00Q.
        self.assertEqual(1000 + 3 * 99900 + 99999900 + 1, forms(Ladder(LONG, 2, "down"), 0, 10 ** 18))

    def test_beside_going_through_the_numbers(self):
        chance = random.Random(2)
        for rule in rules(SMALL, (1, 2, 3)):
            ladder, seen = made(rule), texts(rule, LAST)
            for _ in range(25):
                low = chance.randrange(LAST)
                high = chance.choice((low, low + 1, min(LAST, low + 30), chance.randrange(low, LAST)))
                if forms(ladder, low, high) != len(set(seen[low:high + 1])):
                    self.fail((rule, low, high, forms(ladder, low, high)))
            self.assertEqual(len(set(seen)), forms(ladder, 0, LAST), rule)

    def test_large_stretches_beside_counting_marks(self):
        for rule in rules(LARGE, (1, 3, 1000)):
            ladder, numbers = made(rule), telling_numbers(rule)[::11]
            for low, high in list(zip(numbers, numbers[1:])) + [(0, 10 ** 18), (numbers[2], 10 ** 18)]:
                self.assertEqual(own_place(rule, high) - own_place(rule, low) + 1, forms(ladder, low, high))

    def test_by_keyword(self):
        self.assertEqual(1011, forms(high=2000, low=0, ladder=NEAR))


class PlacesTest(unittest.TestCase):

    def test_ordinary_places(self):
        for text, place in (("0", 0), ("1", 1), ("999", 999), ("1.0K", 1000), ("1.1K", 1001), ("999.9K", 10989),
                            ("1.0M", 10990), ("1.1M", 10991), ("1000000000000.0M", 10990 + 10 ** 13 - 10)):
            self.assertEqual(place, place_of(NEAR, text))
            if place <= 10 ** 9:
                self.assertEqual(text, figure_at(NEAR, place))

    def test_first_place(self):
        for rule in rules(SMALL + LARGE, (1, 1000)):
            self.assertEqual("0" + rule[0][0][0], figure_at(made(rule), 0))
            self.assertEqual(0, place_of(made(rule), "0" + rule[0][0][0]))

    def test_last_place(self):
        self.assertEqual("1000000000x", figure_at(ONE, 10 ** 9))
        self.assertEqual("99998902.0M", figure_at(NEAR, 10 ** 9))
        for rule in rules(LARGE, (1, 999)):
            ladder = made(rule)
            for place in (10 ** 9, 10 ** 9 - 1):
                self.assertEqual(place, place_of(ladder, figure_at(ladder, place)))

    def test_places_of_figures_with_24_digits(self):
        self.assertEqual(10 ** 24 - 1, place_of(ONE, "9" * 24 + "x"))
        self.assertEqual(10990 + 10 ** 24 - 1 - 10, place_of(NEAR, "9" * 23 + ".9M"))

    def test_beside_going_through_the_numbers(self):
        for rule in rules(SMALL, (1, 3)):
            ladder = made(rule)
            for place, (text, _, _) in enumerate(runs(rule, LAST)):
                if figure_at(ladder, place) != text or place_of(ladder, text) != place:
                    self.fail((rule, place, text))

    def test_from_a_place_to_a_figure_and_back(self):
        chance = random.Random(3)
        for rule in rules(LARGE, (1, 2, 1000)):
            ladder = made(rule)
            for digits in range(1, 10):
                place = chance.randrange(10 ** digits)
                text = figure_at(ladder, place)
                self.assertEqual(place, place_of(ladder, text))
                low, high = range_of(ladder, text)
                self.assertEqual([text, place, place],
                                 [shown(rule, low), own_place(rule, low), own_place(rule, high)])

    def test_large_numbers_beside_counting_marks(self):
        for rule in rules(LARGE, (1, 7)):
            ladder = made(rule)
            for number in telling_numbers(rule)[::7]:
                self.assertEqual(own_place(rule, number), place_of(ladder, shown(rule, number)))

    def test_by_keyword(self):
        self.assertEqual("1.0K", figure_at(place=1000, ladder=NEAR))
        self.assertEqual(1000, place_of(text="1.0K", ladder=NEAR))


class WidestTest(unittest.TestCase):

    def test_the_first_of_several(self):
        self.assertEqual((0, 0), widest(NEAR, 0))
        self.assertEqual((0, 0), widest(NEAR, 999))
        self.assertEqual((0, 0), widest(ONE, 10 ** 18))
        self.assertEqual((1050, 1149), widest(NEAR, 999949))
        self.assertEqual((1000, 1099), widest(Ladder(THOUSANDS, 1, "down"), 999999))
        self.assertEqual((1001, 1100), widest(Ladder(THOUSANDS, 1, "up"), 999900))
        # Even marks have one number more than a step, odd ones one less.
        self.assertEqual((1051, 1149), widest(Ladder(THOUSANDS, 1, "even"), 1149))
        self.assertEqual((1150, 1250), widest(Ladder(THOUSANDS, 1, "even"), 1150))
        self.assertEqual((1150, 1250), widest(Ladder(THOUSANDS, 1, "even"), 999949))

    def test_a_range_that_goes_on_behind_the_number(self):
        self.assertEqual((1000, 1049), widest(NEAR, 1000))
        self.assertEqual((1050, 1149), widest(NEAR, 1050))
        self.assertEqual((999950, 1049999), widest(NEAR, 999950))
        self.assertEqual((1050000, 1149999), widest(NEAR, 1050000))
        self.assertEqual((10 ** 18, 2 * 10 ** 18 - 1), widest(Ladder(LONG, 0, "down"), 10 ** 18))
        self.assertEqual((10 ** 18 - 5 * 10 ** 11, 15 * 10 ** 17 - 1), widest(Ladder(LONG, 0, "near"), 10 ** 18))

    def test_the_largest_number(self):
        self.assertEqual((1050000, 1149999), widest(NEAR, 10 ** 18))
        self.assertEqual((10 ** 12 + 1, 2 * 10 ** 12), widest(Ladder(LONG, 0, "up"), 10 ** 18 - 10 ** 12))
        self.assertEqual((10 ** 12 + 1, 2 * 10 ** 12), widest(Ladder(LONG, 0, "up"), 10 ** 18))

    def test_a_threshold_between_odd_marks(self):
        units = (("", 1), ("A", 2), ("B", 6))
        self.assertEqual([(0, 0), (0, 0), (3, 5), (3, 5), (3, 5), (9, 15)],
                         [widest(Ladder(units, 0, "even"), number) for number in (1, 2, 3, 5, 8, 9)])

    def test_beside_going_through_the_numbers(self):
        for rule in rules(SMALL, (1, 3)):
            ladder, best = made(rule), (0, 0)
            for _, low, high in runs(rule, LAST):
                if high - low > best[1] - best[0]:
                    best = (low, high)
                for number in {low, high}:
                    if widest(ladder, number) != best:
                        self.fail((rule, number, widest(ladder, number), best))

    def test_large_ranges(self):
        for rule in rules(LARGE, (1, 2)):
            ladder, numbers = made(rule), telling_numbers(rule)[::3]
            ends = [range_of(ladder, shown(rule, number)) for number in numbers]
            for at in range(0, len(numbers), 17):
                low, high = widest(ladder, numbers[at])
                self.assertTrue(low <= numbers[at])
                self.assertEqual((low, high), range_of(ladder, shown(rule, low)))
                for other_low, other_high in ends[:at + 1]:
                    self.assertLessEqual(other_high - other_low, high - low)
                    if other_high - other_low == high - low:
                        self.assertLessEqual(low, other_low)

    def test_by_keyword(self):
        self.assertEqual((0, 0), widest(number=5, ladder=NEAR))


class WrongArgumentsTest(ErrorCase):

    def test_no_ladder(self):
        for value in NO_LADDERS:
            with self.subTest(value=value):
                self.assert_value(NotALadder, value, forms, value, 0, 5)
                self.assert_value(NotALadder, value, forms, value, -1, -1)
                self.assert_value(NotALadder, value, forms, value, 5, 0)
                self.assert_value(NotALadder, value, forms, high=None, low=None, ladder=value)
                self.assert_value(NotALadder, value, figure_at, value, 0)
                self.assert_value(NotALadder, value, figure_at, value, -1)
                self.assert_value(NotALadder, value, figure_at, place=None, ladder=value)
                self.assert_value(NotALadder, value, widest, value, 0)
                self.assert_value(NotALadder, value, widest, number=None, ladder=value)
                for text in ("1.0K", "0.5K", "no", None):
                    self.assert_value(NotALadder, value, place_of, value, text)
                self.assert_value(NotALadder, value, place_of, text=None, ladder=value)

    def test_no_number(self):
        for value in NO_NUMBERS:
            with self.subTest(value=value):
                self.assert_value(InvalidNumber, value, widest, NEAR, value)
                self.assert_value(InvalidNumber, value, widest, number=value, ladder=NEAR)
                self.assert_value(InvalidNumber, value, forms, NEAR, value, 5)
                self.assert_value(InvalidNumber, value, forms, NEAR, 5, value)
                self.assert_value(InvalidNumber, value, forms, NEAR, value, "other")
                self.assert_value(InvalidNumber, value, forms, high=value, low=0, ladder=NEAR)
                self.assert_value(InvalidNumber, value, forms, high=-7, low=value, ladder=NEAR)

    def test_numbers_in_a_wrong_order(self):
        for low, high in ((1, 0), (1001, 1000), (10 ** 18, 0), (10 ** 18, 10 ** 18 - 1)):
            self.assert_value(InvalidNumber, high, forms, NEAR, low, high)
            self.assert_value(InvalidNumber, high, forms, high=high, low=low, ladder=NEAR)
        self.assert_value(InvalidNumber, -2, forms, NEAR, -2, -3)
        self.assert_value(InvalidNumber, 10 ** 18 + 2, forms, NEAR, 10 ** 18 + 2, 10 ** 18 + 1)

    def test_no_place(self):
        for value in [-1, 10 ** 9 + 1, 10 ** 18, -10 ** 21, True, False, "0", "", [0], (0,), NEAR] + odd_values():
            with self.subTest(value=value):
                self.assert_value(InvalidPlace, value, figure_at, NEAR, value)
                self.assert_value(InvalidPlace, value, figure_at, place=value, ladder=NEAR)

    def test_no_figure(self):
        for value in NO_FIGURES:
            with self.subTest(value=value):
                self.assert_value(InvalidFigure, value, place_of, NEAR, value)
                self.assert_value(InvalidFigure, value, place_of, text=value, ladder=NEAR)

    def test_figures_that_are_not_shown(self):
        for text in UNSHOWN:
            self.assert_value(NeverShown, text, place_of, NEAR, text)
            self.assert_value(NeverShown, text, place_of, text=text, ladder=NEAR)
        for rounding in ROUNDINGS:
            self.assert_value(NeverShown, "1000K", place_of, Ladder(THOUSANDS, 0, rounding), "1000K")


if __name__ == "__main__":
    unittest.main()
