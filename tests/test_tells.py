"""Whether what one ladder shows determines what another one shows."""

import unittest

from shortfigures import tells as tells_file
from shortfigures.errors import InvalidFigure, NotALadder
from shortfigures.ladders import Ladder
from shortfigures.ranges import range_of
from shortfigures.tells import figures_in, first_untold, tells
from tests.oracle import (
    LARGE, LONG, ROUNDINGS, SMALL, THOUSANDS, far_enough, first_seen, rules, runs, shown, small_variants,
    telling_numbers, texts, variants)
from tests.test_show import made
from tests.values import NO_FIGURES, NO_LADDERS, UNSHOWN, ErrorCase

NEAR = Ladder(THOUSANDS, 1, "near")
PLAIN = Ladder(THOUSANDS, 0, "near")
ONE = Ladder((("x", 1),), 0, "near")
TALL = (("", 1), ("E", 10 ** 18))


def is_hidden(one, two, number):
    return one[number] == one[number + 1] and two[number] != two[number + 1]


def seen_untold(rule, other):
    """Return the first neighbours that are shown alike by one rule only, by going through the numbers, or None."""
    number = first_seen(rule, other, holds=is_hidden)
    return None if number is None else (number, number + 1)


class FirstUntoldTest(unittest.TestCase):

    def check(self, expected, ladder, other):
        self.assertEqual(expected, first_untold(ladder, other))
        self.assertIs(expected is None, tells(ladder, other))

    def check_seen(self, rule, other):
        expected = seen_untold(rule, other)
        if first_untold(made(rule), made(other)) != expected:
            self.fail((rule, other, expected, first_untold(made(rule), made(other))))
        if tells(made(rule), made(other)) is not (expected is None):
            self.fail((rule, other, expected))
        return expected

    def test_a_ladder_and_itself(self):
        for rule in rules(SMALL + LARGE, (1, 1000)):
            self.check(None, made(rule), made(rule))

    def test_one_unit_tells_everything(self):
        for rule in rules(SMALL + LARGE, (1, 1000)):
            self.check(None, ONE, made(rule))

    def test_ordinary_ladders(self):
        self.check((1499, 1500), NEAR, PLAIN)
        self.check((1049, 1050), PLAIN, NEAR)
        self.check((1000, 1001), NEAR, ONE)
        self.check(None, Ladder(THOUSANDS, 1, "down"), Ladder(THOUSANDS, 0, "down"))
        self.check((1099, 1100), Ladder(THOUSANDS, 0, "down"), Ladder(THOUSANDS, 1, "down"))
        self.check(None, Ladder(THOUSANDS, 2, "up"), Ladder(THOUSANDS, 1, "up"))

    def test_carry_and_least(self):
        # Without carry, more is shown; with it, the numbers at the threshold are shown alike.
        for rounding, low in (("up", 999999), ("near", 999999), ("even", 999999)):
            self.check(None, Ladder(THOUSANDS, 1, rounding, carry=False), Ladder(THOUSANDS, 1, rounding))
            self.check((low, low + 1), Ladder(THOUSANDS, 1, rounding), Ladder(THOUSANDS, 1, rounding, carry=False))
        self.check(None, Ladder(THOUSANDS, 1, "down", least=10), Ladder(THOUSANDS, 1, "down"))
        self.check((1000, 1001), Ladder(THOUSANDS, 1, "down"), Ladder(THOUSANDS, 1, "down", least=10))

    def test_alike_ladders_tell_each_other(self):
        units = (("", 1), ("A", 2))
        self.check(None, Ladder(units, 0, "near"), Ladder(units, 0, "up"))
        self.check(None, Ladder(units, 0, "up"), Ladder(units, 0, "near"))
        self.check(None, Ladder(units, 0, "near"), Ladder((("x", 1), ("y", 2)), 0, "up"))

    def test_names_do_not_count(self):
        self.check(None, NEAR, Ladder((("K", 1), ("", 1000), ("x", 10 ** 6)), 1, "near"))

    def test_changes_that_come_together_at_first(self):
        one = ((("a", 1), ("", 6), ("b", 24)), 0, "even", False, 3)
        two = ((("a", 1), ("c", 2), ("b", 8), ("", 24)), 0, "even", True, 2)
        self.assertEqual((36, 37), self.check_seen(one, two))
        four, six = (Ladder((("", 1), ("K", size)), 0, "down", least=12000 // size) for size in (4000, 6000))
        twelve = Ladder((("", 1), ("K", 12000)), 0, "down")
        self.check((17999, 18000), four, six)
        self.check((15999, 16000), six, four)
        self.check(None, four, twelve)
        self.check(None, six, twelve)

    def test_beyond_the_largest_number(self):
        for least in (1, 2, 1000):
            low = least * 10 ** 18
            for carry in (False, True):
                self.check((low, low + 1), Ladder(TALL, 0, "down", carry=carry, least=least), ONE)
                self.check((low, low + 1), Ladder(TALL, 0, "near", carry=carry, least=least), ONE)
                self.check((low + 1, low + 2), Ladder(TALL, 0, "up", carry=carry, least=least), ONE)
        self.check((15 * 10 ** 17 - 1, 15 * 10 ** 17), Ladder(TALL, 0, "down"), Ladder(TALL, 0, "near"))
        self.check((25 * 10 ** 17 - 1, 25 * 10 ** 17), Ladder(TALL, 0, "even"), Ladder(TALL, 0, "near"))
        self.check((25 * 10 ** 17, 25 * 10 ** 17 + 1), Ladder(TALL, 0, "near"), Ladder(TALL, 0, "even"))
        units = THOUSANDS[:2] + (("E", 10 ** 18),)
        self.check((10 ** 21 - 1, 10 ** 21), Ladder(units, 1, "near", least=1000),
                   Ladder(units, 1, "near", carry=False, least=1000))
        self.check((10 ** 21 - 1, 10 ** 21), Ladder(units[:2], 1, "up", least=1000),
                   Ladder(units, 1, "up", carry=False, least=1000))

    def test_beside_going_through_the_numbers_with_ladders_much_alike(self):
        told = 0
        for rule in rules(SMALL, (1, 3)):
            for other in small_variants(rule):
                told += self.check_seen(rule, other) is None
                self.check_seen(other, rule)
        self.assertGreater(told, 300)

    def test_beside_going_through_the_numbers_with_quite_different_ladders(self):
        chosen = [rule for rule in rules(SMALL, (1, 2, 3)) if far_enough(rule) <= 1500]
        for shift in (7, 50, 101):
            for rule, other in zip(chosen, chosen[shift:] + chosen[:shift]):
                self.check_seen(rule, other)
                self.check_seen(other, rule)

    def test_large_ladders_beside_showing_numbers(self):
        for rule in rules(LARGE, (1, 10)):
            numbers = telling_numbers(rule)[::9]
            for other in variants(rule)[::3]:
                for one, two in ((rule, other), (other, rule)):
                    found = first_untold(made(one), made(two))
                    if found is not None:
                        low, high = found
                        self.assertEqual(low + 1, high)
                        self.assertEqual(shown(one, low), shown(one, high))
                        self.assertNotEqual(shown(two, low), shown(two, high))
                    for number in numbers:
                        if (found is None or number < found[0]) and shown(one, number) == shown(one, number + 1):
                            self.assertEqual(shown(two, number), shown(two, number + 1), (one, two, number))

    def test_by_keyword(self):
        self.assertEqual((1499, 1500), first_untold(other=PLAIN, ladder=NEAR))
        self.assertIs(False, tells(other=PLAIN, ladder=NEAR))
        self.assertIs(True, tells(other=NEAR, ladder=ONE))


class FiguresInTest(unittest.TestCase):

    def test_ordinary_figures(self):
        self.assertEqual([("1K", "2K"), ("1.5K", "2.5K"), ("999", "999"), ("1K", "1K"), ("1.0K", "1.5K")],
                         [figures_in(NEAR, "1.5K", PLAIN), figures_in(PLAIN, "2K", NEAR),
                          figures_in(NEAR, "999", PLAIN), figures_in(NEAR, "1.0K", PLAIN),
                          figures_in(PLAIN, "1K", NEAR)])
        self.assertEqual(("1000x", "1049x"), figures_in(NEAR, "1.0K", ONE))
        self.assertEqual(("1.0K", "1.0K"), figures_in(ONE, "1000x", NEAR))
        self.assertEqual(("1000.0K", "1.0M"), figures_in(NEAR, "1.0M", Ladder(THOUSANDS, 1, "near", carry=False)))

    def test_not_shown(self):
        for text in UNSHOWN:
            self.assertIsNone(figures_in(NEAR, text, PLAIN))
            self.assertIsNone(figures_in(NEAR, text, NEAR))
        for rounding in ROUNDINGS:
            self.assertIsNone(figures_in(Ladder(THOUSANDS, 0, rounding), "1000K", NEAR))

    def test_the_same_ladder(self):
        for text in ("0", "999", "1.0K", "999.9K", "1.0M", "9" * 23 + ".9M"):
            self.assertEqual((text, text), figures_in(NEAR, text, NEAR))

    def test_beyond_the_largest_number(self):
        self.assertEqual(("1" + "0" * 18 + "x", "1" + "9" * 18 + "x"), figures_in(Ladder(LONG, 0, "down"), "1Q", ONE))
        # More than 24 digits.
        self.assertEqual(("9" * 24 + "00000x", "9" * 29 + "x"),
                         figures_in(Ladder(THOUSANDS, 1, "down"), "9" * 23 + ".9M", ONE))
        self.assertEqual(("1" + "0" * 17 + ".0M",) * 2, figures_in(ONE, "1" + "0" * 23 + "x", NEAR))

    def test_beside_going_through_the_numbers(self):
        chosen = rules(SMALL, (1, 2, 3))
        for rule, other in zip(chosen, chosen[45:] + chosen[:45]):
            last = far_enough(rule)
            seen = texts(other, last)
            for text, low, high in runs(rule, last)[::3]:
                if figures_in(made(rule), text, made(other)) != (seen[low], seen[high]):
                    self.fail((rule, text, other))

    def test_beside_showing_the_ends_of_large_ranges(self):
        chosen = rules(LARGE, (1, 7))
        for rule, other in zip(chosen, chosen[31:] + chosen[:31]):
            for number in telling_numbers(rule)[::15]:
                text = shown(rule, number)
                low, high = range_of(made(rule), text)
                self.assertEqual((shown(other, low), shown(other, high)), figures_in(made(rule), text, made(other)))

    def test_by_keyword(self):
        self.assertEqual(("1K", "2K"), figures_in(other=PLAIN, text="1.5K", ladder=NEAR))


class WrongArgumentsTest(ErrorCase):

    def test_no_ladder(self):
        for value in NO_LADDERS:
            with self.subTest(value=value):
                for act in (first_untold, tells):
                    self.assert_value(NotALadder, value, act, value, NEAR)
                    self.assert_value(NotALadder, value, act, NEAR, value)
                    self.assert_value(NotALadder, value, act, value, "other")
                    self.assert_value(NotALadder, value, act, other=[], ladder=value)
                    self.assert_value(NotALadder, value, act, other=value, ladder=NEAR)
                for text in ("1.5K", "0.5K"):
                    self.assert_value(NotALadder, value, figures_in, value, text, NEAR)
                    self.assert_value(NotALadder, value, figures_in, NEAR, text, value)
                    self.assert_value(NotALadder, value, figures_in, other=value, text=text, ladder=NEAR)
                self.assert_value(NotALadder, value, figures_in, value, "no", "other")
                self.assert_value(NotALadder, value, figures_in, other=[], text=None, ladder=value)

    def test_no_figure(self):
        for value in NO_FIGURES:
            with self.subTest(value=value):
                self.assert_value(InvalidFigure, value, figures_in, NEAR, value, PLAIN)
                self.assert_value(InvalidFigure, value, figures_in, NEAR, value, "other")
                self.assert_value(InvalidFigure, value, figures_in, other=None, text=value, ladder=NEAR)

    def test_a_figure_of_the_other_ladder_only(self):
        self.assert_value(InvalidFigure, "2K", figures_in, NEAR, "2K", PLAIN)

    def test_defined_where_they_are_listed(self):
        for name in ("first_untold", "tells", "figures_in"):
            self.assertEqual("shortfigures.tells", getattr(tells_file, name).__module__)


if __name__ == "__main__":
    unittest.main()
