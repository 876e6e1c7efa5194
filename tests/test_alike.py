"""Whether ladders are alike, and whether they are steady."""

import unittest

from shortfigures import alike
from shortfigures.alike import are_alike, first_drift, first_unlike, is_steady
from shortfigures.errors import NotALadder
from shortfigures.ladders import Ladder, show, worth
from tests.oracle import (
    LARGE, LONG, ROUNDINGS, SMALL, THOUSANDS, far_enough, first_seen, rules, runs, shown, small_variants,
    telling_numbers, variants, worth_of_shown)
from tests.test_show import made
from tests.values import NO_LADDERS, ErrorCase

NEAR = Ladder(THOUSANDS, 1, "near")
ONE = (("", 1),)


def seen_unlike(rule, other):
    """Return the first number that two rules show differently, by going through the numbers, or None."""
    return first_seen(rule, other, holds=lambda one, two, number: one[number] != two[number])


class FirstUnlikeTest(unittest.TestCase):

    def check(self, expected, ladder, other):
        for one, two in ((ladder, other), (other, ladder)):
            self.assertEqual(expected, first_unlike(one, two))
            self.assertIs(expected is None, are_alike(one, two))

    def test_a_ladder_and_itself(self):
        for rule in rules(SMALL + LARGE, (1, 1000)):
            self.check(None, made(rule), made(rule))

    def test_one_part_changed(self):
        self.check(1050, NEAR, Ladder(THOUSANDS, 1, "even"))
        self.check(1050, NEAR, Ladder(THOUSANDS, 1, "down"))
        self.check(1001, NEAR, Ladder(THOUSANDS, 1, "up"))
        self.check(1000, NEAR, Ladder(THOUSANDS, 0, "near"))
        self.check(1000, NEAR, Ladder(THOUSANDS, 2, "near"))
        self.check(1000, NEAR, Ladder(THOUSANDS, 1, "near", least=2))
        self.check(999950, NEAR, Ladder(THOUSANDS, 1, "near", carry=False))
        self.check(999950, NEAR, Ladder(THOUSANDS[:2], 1, "near"))
        self.check(1000, NEAR, Ladder(ONE, 1, "near"))
        self.check(999950, NEAR, Ladder((("", 1), ("K", 1000), ("m", 10 ** 6)), 1, "near"))
        self.check(999950, NEAR, Ladder((("", 1), ("K", 1000), ("M", 2 * 10 ** 6)), 1, "near"))
        self.check(1000, NEAR, Ladder((("", 1), ("k", 1000), ("M", 10 ** 6)), 1, "near"))
        self.check(1000, NEAR, Ladder((("", 1), ("K", 2000), ("M", 10 ** 6)), 1, "near"))
        self.check(0, NEAR, Ladder((("x", 1), ("K", 1000), ("M", 10 ** 6)), 1, "near"))
        self.check(999950000, NEAR, Ladder(THOUSANDS + (("B", 10 ** 9),), 1, "near"))

    def test_ladders_of_one_unit(self):
        for rounding in ROUNDINGS:
            for decimals in range(4):
                other = Ladder(ONE, decimals, rounding, carry=False, least=1000)
                self.check(None, Ladder(ONE, 0, "near"), other)
                self.check(0, Ladder((("x", 1),), 0, "near"), other)

    def test_alike_although_the_parts_are_different(self):
        # Without a third unit nothing is carried, and `down` never rounds up.
        self.check(None, Ladder(THOUSANDS[:2], 1, "near"), Ladder(THOUSANDS[:2], 1, "near", carry=False))
        self.check(None, Ladder(THOUSANDS, 1, "down"), Ladder(THOUSANDS, 1, "down", carry=False))
        # With a step of 2, each number that is not even lies exactly between two marks.
        for decimals, size in ((0, 2), (1, 20), (2, 200), (3, 2000)):
            units = ONE + (("A", size),)
            for carry in (False, True):
                self.check(None, Ladder(units, decimals, "near", carry=carry), Ladder(units, decimals, "up"))
        # The numbers before B are rounded down to the even mark 2, so that nothing is carried.
        units = (("", 1), ("A", 2), ("B", 6))
        self.check(None, Ladder(units, 0, "even"), Ladder(units, 0, "even", carry=False))
        self.check(11, Ladder(units, 0, "even", least=2), Ladder(units, 0, "even", carry=False, least=2))

    def test_steps_that_differ(self):
        one, two = Ladder((("", 1), ("K", 1000)), 0, "down"), Ladder((("", 1), ("K", 1002)), 0, "down")
        self.check(1000, one, two)
        self.check(10 ** 18 - 2, Ladder((("", 1), ("K", 10 ** 18)), 0, "down"),
                   Ladder((("", 1), ("K", 10 ** 18 - 2)), 0, "down"))

    def test_beyond_the_largest_number(self):
        tall = ONE + (("E", 10 ** 18),)
        self.check(10 ** 18, Ladder(ONE, 0, "near"), Ladder(tall, 0, "near"))
        self.check(7 * 10 ** 18, Ladder(ONE, 0, "near"), Ladder(tall, 0, "near", least=7))
        self.check(999 * 10 ** 18, Ladder(tall, 2, "up", least=1000), Ladder(tall, 2, "up", least=999))
        self.check(15 * 10 ** 17, Ladder(tall, 0, "down"), Ladder(tall, 0, "near"))
        self.check(10 ** 18 + 1, Ladder(tall, 0, "up"), Ladder(tall, 0, "even"))
        self.check(25 * 10 ** 17, Ladder(tall, 0, "near"), Ladder(tall, 0, "even"))
        for rounding, last in (("up", 10 ** 21 - 99), ("near", 10 ** 21 - 50), ("even", 10 ** 21 - 50)):
            units = THOUSANDS[:2] + (("E", 10 ** 18),)
            self.check(last, Ladder(units, 1, rounding, least=1000),
                       Ladder(units, 1, rounding, carry=False, least=1000))
            self.check(last, Ladder(units, 1, rounding, least=1000), Ladder(units[:2], 1, rounding, least=1000))

    def test_beside_going_through_the_numbers_with_one_part_changed(self):
        alike_ones = 0
        for rule in rules(SMALL, (1, 3)):
            for other in small_variants(rule):
                expected = seen_unlike(rule, other)
                alike_ones += expected is None
                if first_unlike(made(rule), made(other)) != expected:
                    self.fail((rule, other, expected))
                if are_alike(made(other), made(rule)) is not (expected is None):
                    self.fail((other, rule, expected))
        self.assertGreater(alike_ones, 100)

    def test_beside_going_through_the_numbers_with_quite_different_ladders(self):
        chosen = rules(SMALL, (1, 2, 7))
        for rule, other in zip(chosen, chosen[100:] + chosen[:100]):
            self.assertEqual(seen_unlike(rule, other), first_unlike(made(rule), made(other)))

    def test_large_ladders_beside_showing_numbers(self):
        for rule in rules(LARGE, (1, 10)):
            numbers = telling_numbers(rule)[::9]
            for other in variants(rule)[::2]:
                first = first_unlike(made(rule), made(other))
                self.assertEqual(first, first_unlike(made(other), made(rule)))
                if first is not None:
                    self.assertNotEqual(shown(rule, first), shown(other, first))
                    self.assertTrue(first == 0 or shown(rule, first - 1) == shown(other, first - 1))
                for number in numbers:
                    if first is None or number < first:
                        self.assertEqual(shown(rule, number), shown(other, number))

    def test_by_keyword(self):
        self.assertEqual(999950, first_unlike(other=Ladder(THOUSANDS[:2], 1, "near"), ladder=NEAR))
        self.assertIs(True, are_alike(other=NEAR, ladder=NEAR))
        self.assertIs(False, are_alike(other=Ladder(THOUSANDS[:2], 1, "near"), ladder=NEAR))


class FirstDriftTest(unittest.TestCase):

    def check(self, expected, ladder):
        self.assertEqual(expected, first_drift(ladder))
        self.assertIs(expected is None, is_steady(ladder))

    def test_with_carry(self):
        for rule in rules(SMALL + LARGE, (1, 2, 3, 10, 1000)):
            if rule[3]:
                self.check(None, made(rule))

    def test_without_carry(self):
        for least in (1, 7, 1000):
            for rounding, drift in (("down", None), ("up", 99), ("near", 50), ("even", 50)):
                self.check(None if drift is None else least * 10 ** 6 - drift,
                           Ladder(THOUSANDS, 1, rounding, carry=False, least=least))
                self.check(None, Ladder(THOUSANDS[:2], 1, rounding, carry=False, least=least))
                self.check(None, Ladder(ONE, 1, rounding, carry=False, least=least))

    def test_even_with_a_threshold_between(self):
        units = (("", 1), ("A", 2), ("B", 6), ("C", 12))
        self.check(9, Ladder(units, 0, "even", carry=False))
        self.check(None, Ladder(units[:3], 0, "even", carry=False))
        self.check(5, Ladder(units[:3], 0, "near", carry=False))
        self.check(11, Ladder(units[:3], 0, "even", carry=False, least=2))

    def test_beyond_the_largest_number(self):
        units = THOUSANDS[:2] + (("E", 10 ** 18),)
        for rounding, drift in (("up", 99), ("near", 50), ("even", 50)):
            self.check(10 ** 21 - drift, Ladder(units, 1, rounding, carry=False, least=1000))

    def test_beside_going_through_the_numbers(self):
        for rule in rules(SMALL, (1, 2, 3, 7)):
            ladder = made(rule)
            starts = [low for _, low, _ in runs(rule, far_enough(rule))]
            expected = next((low for low in starts if shown(rule, worth_of_shown(rule, low)) != shown(rule, low)), None)
            if first_drift(ladder) != expected or is_steady(ladder) is not (expected is None):
                self.fail((rule, first_drift(ladder), expected))

    def test_large_ladders_beside_showing_numbers(self):
        for rule in rules(LARGE, (1, 999)):
            ladder = made(rule)
            first = first_drift(ladder)
            if first is not None:
                self.assertNotEqual(shown(rule, first), shown(rule, worth_of_shown(rule, first)))
            for number in telling_numbers(rule)[::5] + ([] if first is None else [first - 1]):
                if first is None or number < first:
                    self.assertEqual(shown(rule, number), shown(rule, worth_of_shown(rule, number)))

    def test_worths_in_the_program_itself(self):
        ladder = Ladder(LONG, 2, "near", carry=False)
        first = first_drift(ladder)
        self.assertEqual([999995, "1000.00K", "1.00M"],
                         [first, show(ladder, first), show(ladder, worth(ladder, show(ladder, first)))])

    def test_by_keyword(self):
        self.assertIsNone(first_drift(ladder=NEAR))
        self.assertIs(True, is_steady(ladder=NEAR))


class WrongArgumentsTest(ErrorCase):

    def test_no_ladder(self):
        for value in NO_LADDERS:
            with self.subTest(value=value):
                for act in (first_unlike, are_alike):
                    self.assert_value(NotALadder, value, act, value, NEAR)
                    self.assert_value(NotALadder, value, act, NEAR, value)
                    self.assert_value(NotALadder, value, act, value, "other")
                    self.assert_value(NotALadder, value, act, other=[], ladder=value)
                    self.assert_value(NotALadder, value, act, other=value, ladder=NEAR)
                for act in (first_drift, is_steady):
                    self.assert_value(NotALadder, value, act, value)
                    self.assert_value(NotALadder, value, act, ladder=value)

    def test_defined_where_they_are_listed(self):
        for name in ("first_unlike", "are_alike", "first_drift", "is_steady"):
            self.assertEqual("shortfigures.alike", getattr(alike, name).__module__)


if __name__ == "__main__":
    unittest.main()
