import unittest

from shortfigures.errors import InvalidNumber, NotALadder
from shortfigures.ladders import Ladder, show
from tests.oracle import (
    LARGE, LEASTS, LONG, SMALL, THOUSANDS, placed, rules, shown, step_of, telling_numbers, threshold_of)
from tests.values import ErrorCase, odd_values


def made(rule):
    units, decimals, rounding, carry, least = rule
    return Ladder(units, decimals, rounding, carry=carry, least=least)


def shows(ladder, *numbers):
    return [show(ladder, number) for number in numbers]


class ShowTest(unittest.TestCase):

    def test_the_first_unit_shows_numbers_as_they_are(self):
        for rounding in ("down", "up", "near", "even"):
            for decimals in range(4):
                ladder = Ladder((("x", 1),), decimals, rounding)
                self.assertEqual(["0x", "1x", "10x", "999x", "1000000000000000000x"],
                                 shows(ladder, 0, 1, 10, 999, 10 ** 18))

    def test_down(self):
        ladder = Ladder(THOUSANDS, 1, "down")
        self.assertEqual(["999", "1.0K", "1.0K", "1.1K", "999.9K", "999.9K", "1.0M", "1.0M", "1.1M"],
                         shows(ladder, 999, 1000, 1099, 1100, 999900, 999999, 1000000, 1099999, 1100000))

    def test_up(self):
        ladder = Ladder(THOUSANDS, 1, "up")
        self.assertEqual(["999", "1.0K", "1.1K", "1.1K", "1.2K", "999.9K", "1.0M", "1.0M", "1.0M", "1.1M"],
                         shows(ladder, 999, 1000, 1001, 1100, 1101, 999900, 999901, 999999, 1000000, 1000001))

    def test_near(self):
        ladder = Ladder(THOUSANDS, 1, "near")
        self.assertEqual(["1.0K", "1.1K", "1.1K", "1.2K", "999.9K", "1.0M", "1.0M", "1.1M"],
                         shows(ladder, 1049, 1050, 1149, 1150, 999949, 999950, 1049999, 1050000))

    def test_even(self):
        ladder = Ladder(THOUSANDS, 1, "even")
        self.assertEqual(["1.0K", "1.0K", "1.1K", "1.1K", "1.2K", "1.2K", "1.3K", "999.9K", "1.0M", "1.0M", "1.1M"],
                         shows(ladder, 1049, 1050, 1051, 1149, 1150, 1250, 1251, 999949, 999950, 1050000, 1050001))

    def test_even_with_an_odd_threshold(self):
        # The threshold of B is three times A, so that 5 goes to 2 A and is not carried.
        units = (("", 1), ("A", 2), ("B", 6))
        self.assertEqual(["1A", "2A", "2A", "2A", "1B"], shows(Ladder(units, 0, "even"), 2, 3, 4, 5, 6))
        self.assertEqual(["1A", "2A", "2A", "1B", "1B"], shows(Ladder(units, 0, "near"), 2, 3, 4, 5, 6))
        self.assertEqual(["1A", "2A", "2A", "3A", "1B"], shows(Ladder(units, 0, "near", carry=False), 2, 3, 4, 5, 6))

    def test_without_carry(self):
        self.assertEqual(["1000.0K", "1000.0K", "1.0M"],
                         shows(Ladder(THOUSANDS, 1, "near", carry=False), 999950, 999999, 1000000))
        self.assertEqual(["999.9K", "1000.0K", "1.0M"],
                         shows(Ladder(THOUSANDS, 1, "up", carry=False), 999900, 999901, 1000000))
        ladder = Ladder(THOUSANDS, 0, "down", carry=False)
        self.assertEqual(["999K", "999K", "1M"], shows(ladder, 999000, 999999, 10 ** 6))

    def test_nothing_is_carried_beyond_the_last_unit(self):
        self.assertEqual(["1000.0K", "1000000.0K"], shows(Ladder(THOUSANDS[:2], 1, "near"), 999950, 999999990))

    def test_least(self):
        ladder = Ladder(THOUSANDS, 1, "near", least=10)
        self.assertEqual(["9999", "10.0K", "9999.9K", "10.0M"], shows(ladder, 9999, 10000, 9999949, 9999950))
        ladder = Ladder(THOUSANDS, 1, "near", carry=False, least=10)
        self.assertEqual(["9999.9K", "10000.0K", "10000.0K", "10.0M"],
                         shows(ladder, 9999949, 9999950, 9999999, 10 ** 7))
        ladder = Ladder(THOUSANDS, 0, "up", least=1000)
        self.assertEqual(["0", "999999", "1000K", "1001K", "1000M"],
                         shows(ladder, 0, 999999, 10 ** 6, 1000001, 10 ** 9))

    def test_decimals(self):
        units = (("", 1), ("K", 2000))
        self.assertEqual(["1K", "1.0K", "1.00K", "1.000K"],
                         [show(Ladder(units, decimals, "near"), 2000) for decimals in range(4)])
        self.assertEqual(["2K", "1.5K", "1.50K", "1.501K"],
                         [show(Ladder(units, decimals, "near"), 3001) for decimals in range(4)])
        self.assertEqual(["50K", "50.0K", "50.05K", "50.050K"],
                         [show(Ladder(units, decimals, "near"), 100099) for decimals in range(4)])

    def test_the_largest_number(self):
        for rounding in ("down", "up", "near", "even"):
            self.assertEqual("1.00Q", show(Ladder(LONG, 2, rounding), 10 ** 18))
            self.assertEqual("1000000.0T", show(Ladder(LONG, 1, rounding, least=2), 10 ** 18))
            self.assertEqual("1000000000000.0M", show(Ladder(THOUSANDS, 1, rounding), 10 ** 18))
        self.assertEqual(["999999.9T", "1.0Q"],
                         shows(Ladder(LONG, 1, "near"), 10 ** 18 - 5 * 10 ** 10 - 1, 10 ** 18 - 1))

    def test_zero(self):
        for rule in rules(SMALL + LARGE, LEASTS):
            self.assertEqual("0" + rule[0][0][0], show(made(rule), 0))

    def test_beside_a_division_of_the_tests_own_over_all_small_numbers(self):
        for rule in rules(SMALL, (1, 2, 3, 7)):
            ladder = made(rule)
            for number in range(1300):
                if show(ladder, number) != shown(rule, number):
                    self.fail((rule, number, show(ladder, number)))

    def test_beside_a_division_of_the_tests_own_over_large_numbers(self):
        for rule in rules(LARGE, LEASTS):
            ladder = made(rule)
            for number in telling_numbers(rule):
                if show(ladder, number) != shown(rule, number):
                    self.fail((rule, number, show(ladder, number)))

    def test_a_carried_number_shows_just_the_threshold(self):
        many = 0
        for rule in rules(SMALL + LARGE, (1, 3)):
            ladder = made(rule)
            for place in range(1, len(rule[0])):
                low = threshold_of(rule, place)
                number = low - 1
                if number <= 10 ** 18 and placed(rule, number)[0] == place:
                    many += 1
                    self.assertEqual(low // step_of(rule, place), placed(rule, number)[1])
                    self.assertEqual(show(ladder, low), show(ladder, number))
        self.assertGreater(many, 100)

    def test_one_to_six_units(self):
        for many in range(1, 7):
            ladder = Ladder(LONG[:many], 0, "down")
            for place in range(many):
                self.assertEqual("1" + LONG[place][0], show(ladder, LONG[place][1]))

    def test_by_keyword(self):
        self.assertEqual("1.1K", show(number=1050, ladder=Ladder(THOUSANDS, 1, "near")))
        self.assertEqual("1.1K", show(Ladder(THOUSANDS, 1, "near"), number=1050))

    def test_nothing_changes(self):
        ladder = Ladder(THOUSANDS, 1, "near")
        told = ladder.told
        self.assertEqual([show(ladder, 999950)] * 2, shows(ladder, 999950, 999950))
        self.assertEqual(told, ladder.told)


class WrongArgumentsTest(ErrorCase):

    def test_no_ladder(self):
        ladder = Ladder(THOUSANDS, 1, "near")
        for value in [ladder.told, 5, True, "", repr(ladder), Ladder] + odd_values():
            with self.subTest(value=value):
                self.assert_value(NotALadder, value, show, value, 5)
                self.assert_value(NotALadder, value, show, value, -1)
                self.assert_value(NotALadder, value, show, number=None, ladder=value)

    def test_no_number(self):
        ladder = Ladder(THOUSANDS, 1, "near")
        for value in [-1, 10 ** 18 + 1, -10 ** 21, 10 ** 21, True, False, "5", "", ladder] + odd_values():
            with self.subTest(value=value):
                self.assert_value(InvalidNumber, value, show, ladder, value)
                self.assert_value(InvalidNumber, value, show, number=value, ladder=ladder)


if __name__ == "__main__":
    unittest.main()
