import unittest

from shortfigures import ladders
from shortfigures.errors import (
    InvalidCarry, InvalidDecimals, InvalidLeast, InvalidRounding, InvalidUnits)
from shortfigures.ladders import Ladder
from tests.oracle import LARGE, LEASTS, LONG, ROUNDINGS, SMALL, THOUSANDS, rules
from tests.values import ErrorCase, nested, odd_values

ONE = (("", 1),)


class UnitsTest(ErrorCase):

    def test_units_that_are_let(self):
        for units in (
                ONE, (("abc", 1),), (("XYZ", 1),), (("aZ", 1), ("Az", 2), ("az", 4), ("AZ", 8)),
                (("B", 1), ("", 2)), (("", 1), ("E", 10 ** 18)), THOUSANDS, LONG,
                tuple((letter, 2 ** k) for k, letter in enumerate("AMNZaz")),
                (("m", 1), ("n", 2), ("M", 4), ("N", 12), ("z", 24), ("Z", 72))):
            with self.subTest(units=units):
                self.assertEqual(units, Ladder(units, 0, "down").units)

    def test_one_to_six_units(self):
        for many in range(1, 7):
            self.assertEqual(many, len(Ladder(LONG[:many], 0, "near")))

    def test_no_tuple_or_a_wrong_number_of_elements(self):
        seven = tuple(("abcdefg"[k], 2 ** k) for k in range(7))
        bad_inside = (None,) * 7
        for units in ([("", 1)], list(THOUSANDS), {"": 1}, None, "", "K", 1, True, b"K", (), seven, bad_inside,
                      LONG + (("Z", 2 * 10 ** 18),), iter(ONE), set(ONE), Ladder(ONE, 0, "up")):
            with self.subTest(units=units):
                self.assert_index(InvalidUnits, None, Ladder, units, 0, "near")

    def test_an_element_that_is_no_pair(self):
        for unit in [["K", 1000], ("K",), ("K", 1000, 1), "K1", {"K": 1000}, 1000, True, {"K", 1000}] + odd_values():
            with self.subTest(unit=unit):
                self.assert_index(InvalidUnits, 1, Ladder, (("", 1), unit), 0, "near")
                self.assert_index(InvalidUnits, 0, Ladder, (unit, ("K", 1000)), 0, "near")

    def test_bad_names(self):
        for name in ["abcd", "Kilo", " ", "K ", " K", "K1", "1", "_", "K.", ".", "-", "\n", "K\n", "\0", "\xe9", "\xb5",
                     "\u212a", "\uff2b", "\u0430", "\u00df", "@", "[", "`", "{", 0, 1, True] + odd_values():
            with self.subTest(name=name):
                self.assert_index(InvalidUnits, 1, Ladder, (("", 1), (name, 1000)), 0, "near")
                self.assert_index(InvalidUnits, 0, Ladder, ((name, 1), ("K", 1000)), 0, "near")

    def test_all_letters_are_let(self):
        for letter in "ABCDEFGHIJKLMNOPQRSTUVWXYZabcdefghijklmnopqrstuvwxyz":
            for name in (letter, "x" + letter, "Xx" + letter):
                self.assertEqual(((name, 1),), Ladder(((name, 1),), 0, "near").units)

    def test_a_name_twice(self):
        self.assert_index(InvalidUnits, 1, Ladder, (("", 1), ("", 1000)), 0, "near")
        self.assert_index(InvalidUnits, 2, Ladder, (("", 1), ("K", 1000), ("K", 1000000)), 0, "near")
        self.assert_index(InvalidUnits, 2, Ladder, (("K", 1), ("", 1000), ("K", 1000000)), 0, "near")
        self.assert_index(InvalidUnits, 5, Ladder, LONG[:5] + (("", 10 ** 18),), 0, "near")
        self.assertEqual(3, len(Ladder((("", 1), ("K", 1000), ("k", 1000000)), 0, "near")))

    def test_bad_first_sizes(self):
        for size in [0, 2, -1, 1000, True, False, "1"] + odd_values():
            with self.subTest(size=size):
                self.assert_index(InvalidUnits, 0, Ladder, (("", size),), 0, "near")
                self.assert_index(InvalidUnits, 0, Ladder, (("", size), ("K", 1000)), 0, "near")

    def test_bad_further_sizes(self):
        for size in [0, 1, -1000, True, "1000", 10 ** 18 + 2, 2 * 10 ** 18, 10 ** 21] + odd_values():
            with self.subTest(size=size):
                self.assert_index(InvalidUnits, 1, Ladder, (("", 1), ("K", size)), 0, "near")
        for size in (1000, 500, 2, 1, 1500, 1999, 2001, 0, -2000, 10 ** 18 + 1000):
            with self.subTest(size=size):
                self.assert_index(InvalidUnits, 2, Ladder, (("", 1), ("K", 1000), ("M", size)), 0, "near")
        self.assertEqual(3, len(Ladder((("", 1), ("K", 1000), ("M", 2000)), 0, "near")))
        self.assertEqual(3, len(Ladder((("", 1), ("K", 1000), ("M", 3000)), 0, "near")))
        self.assertEqual(3, len(Ladder((("", 1), ("K", 1000), ("M", 10 ** 18)), 0, "near")))

    def test_a_size_is_held_against_the_one_before_it(self):
        units = (("", 1), ("a", 4), ("b", 12), ("c", 20))
        self.assert_index(InvalidUnits, 3, Ladder, units, 0, "near")

    def test_the_first_bad_place(self):
        self.assert_index(InvalidUnits, 1, Ladder, (("", 1), ("", 0), None), 0, "near")
        self.assert_index(InvalidUnits, 2, Ladder, (("", 1), ("K", 10), None, ("K", 5), 7), 0, "near")
        self.assert_index(InvalidUnits, 0, Ladder, (None, None), 0, "near")
        self.assert_index(InvalidUnits, 4, Ladder, LONG[:4] + (["T", 10 ** 12], ["Q", 1]), 0, "near")


class OtherArgumentsTest(ErrorCase):

    def test_all_that_is_let(self):
        for rule in rules(SMALL + LARGE, LEASTS):
            units, decimals, rounding, carry, least = rule
            ladder = Ladder(units, decimals, rounding, carry=carry, least=least)
            self.assertEqual(rule, ladder.told)
            self.assertEqual(rule, (ladder.units, ladder.decimals, ladder.rounding, ladder.carry, ladder.least))
            self.assertIs(carry, ladder.carry)
            self.assertIsInstance(ladder.told, tuple)

    def test_carry_and_least_by_default(self):
        ladder = Ladder(THOUSANDS, 1, "near")
        self.assertIs(True, ladder.carry)
        self.assertEqual(1, ladder.least)
        self.assertEqual((THOUSANDS, 1, "near", True, 1), ladder.told)

    def test_by_keyword(self):
        ladder = Ladder(least=5, carry=False, rounding="even", decimals=2, units=THOUSANDS)
        self.assertEqual((THOUSANDS, 2, "even", False, 5), ladder.told)

    def test_carry_and_least_only_by_keyword(self):
        self.assertRaises(TypeError, Ladder, THOUSANDS, 1, "near", True)
        self.assertRaises(TypeError, Ladder, THOUSANDS, 1, "near", True, 1)

    def test_bad_decimals(self):
        for decimals in [-1, 4, 10, -10 ** 21, 10 ** 21, True, False, "1", "near"] + odd_values():
            with self.subTest(decimals=decimals):
                self.assert_value(InvalidDecimals, decimals, Ladder, THOUSANDS, decimals, "near")
                self.assert_value(InvalidDecimals, decimals, Ladder, ONE, decimals, "near")

    def test_sizes_that_do_not_fit_the_decimals(self):
        for decimals, good, bad in ((0, 2, 3), (0, 6, 7), (1, 20, 10), (1, 60, 30), (2, 200, 100), (2, 1000, 500),
                                    (3, 2000, 1000), (3, 6000, 3000), (3, 10 ** 18, 5 ** 18)):
            with self.subTest(decimals=decimals, good=good, bad=bad):
                self.assert_value(InvalidDecimals, decimals, Ladder, (("", 1), ("K", bad)), decimals, "near")
                self.assertEqual(decimals, Ladder((("", 1), ("K", good)), decimals, "near").decimals)
        self.assert_value(InvalidDecimals, 3, Ladder, THOUSANDS, 3, "near")
        self.assert_value(InvalidDecimals, 1, Ladder, (("", 1), ("a", 10), ("b", 20)), 1, "near")
        self.assert_value(InvalidDecimals, 0, Ladder, (("", 1), ("a", 3), ("b", 6)), 0, "near")

    def test_the_first_size_allows_all_decimals(self):
        for decimals in range(4):
            self.assertEqual(decimals, Ladder(ONE, decimals, "near").decimals)
            self.assertEqual(decimals, Ladder((("", 1), ("K", 2000)), decimals, "near").decimals)

    def test_bad_roundings(self):
        for rounding in ["", "Near", "NEAR", " near", "near ", "n", "half", "nearest", "downup", "\uff55p", 0, 1, True,
                         b"near", ["near"], ("near",)] + odd_values():
            with self.subTest(rounding=rounding):
                self.assert_value(InvalidRounding, rounding, Ladder, THOUSANDS, 1, rounding)

    def test_bad_carries(self):
        for carry in [0, 1, 2, "True", "False", ""] + odd_values():
            with self.subTest(carry=carry):
                self.assert_value(InvalidCarry, carry, Ladder, THOUSANDS, 1, "near", carry=carry)

    def test_bad_leasts(self):
        for least in [0, -1, 1001, 10 ** 21, True, False, "1"] + odd_values():
            with self.subTest(least=least):
                self.assert_value(InvalidLeast, least, Ladder, THOUSANDS, 1, "near", least=least)

    def test_the_order_of_the_errors(self):
        bad = {"carry": 1, "least": 0}
        self.assert_index(InvalidUnits, None, Ladder, [], 9, "no", **bad)
        self.assert_index(InvalidUnits, 1, Ladder, (("", 1), ("K", 1)), 9, "no", **bad)
        self.assert_index(InvalidUnits, 2, Ladder, (("", 1), ("K", 3), None), 1, "no", **bad)
        self.assert_value(InvalidDecimals, 9, Ladder, THOUSANDS, 9, "no", **bad)
        self.assert_value(InvalidDecimals, 3, Ladder, THOUSANDS, 3, "no", **bad)
        self.assert_value(InvalidRounding, "no", Ladder, THOUSANDS, 1, "no", **bad)
        self.assert_value(InvalidCarry, 1, Ladder, THOUSANDS, 1, "near", **bad)
        self.assert_value(InvalidCarry, 1, Ladder, THOUSANDS, 1, "near", least=0, carry=1)
        self.assert_value(InvalidLeast, 0, Ladder, THOUSANDS, 1, "near", carry=False, least=0)
        self.assert_value(InvalidDecimals, True, Ladder, THOUSANDS, True, True, carry=1, least=True)

    def test_deep_values(self):
        deep = nested(15)
        self.assert_index(InvalidUnits, 0, Ladder, deep, 1, "near")
        self.assert_value(InvalidDecimals, deep, Ladder, THOUSANDS, deep, "near")
        self.assert_value(InvalidRounding, deep, Ladder, THOUSANDS, 1, deep)
        self.assert_value(InvalidCarry, deep, Ladder, THOUSANDS, 1, "near", carry=deep)
        self.assert_value(InvalidLeast, deep, Ladder, THOUSANDS, 1, "near", least=deep)


class LadderAsAValueTest(unittest.TestCase):

    def test_len_and_truth(self):
        for many in range(1, 7):
            ladder = Ladder(LONG[:many], 1, "up")
            self.assertEqual(many, len(ladder))
            self.assertIs(True, bool(ladder))

    def test_repr(self):
        self.assertEqual("Ladder(3 units, 1 decimals, near)", repr(Ladder(THOUSANDS, 1, "near")))
        for many in range(1, 7):
            for decimals in range(3):
                for rounding in ROUNDINGS:
                    expected = "Ladder(" + str(many) + " units, " + str(decimals) + " decimals, " + rounding + ")"
                    self.assertEqual(expected, repr(Ladder(LONG[:many], decimals, rounding)))
                    self.assertEqual(expected, repr(Ladder(LONG[:many], decimals, rounding, carry=False, least=9)))
        self.assertEqual("Ladder(1 units, 3 decimals, even)", repr(Ladder(ONE, 3, "even")))

    def test_equal_ladders(self):
        for units, decimals, rounding, carry, least in rules(SMALL, (1, 1000)):
            ladder = Ladder(units, decimals, rounding, carry=carry, least=least)
            other = Ladder(tuple([(name, size) for name, size in units]), decimals, rounding, carry=carry, least=least)
            self.assertIs(True, ladder == ladder)
            self.assertIs(True, ladder == other)
            self.assertIs(False, ladder != other)

    def test_each_difference_counts(self):
        ladder = Ladder(THOUSANDS, 1, "near")
        for other in (
                Ladder(THOUSANDS[:2], 1, "near"), Ladder((("", 1), ("k", 1000), ("M", 1000000)), 1, "near"),
                Ladder((("", 1), ("K", 1000), ("M", 2000000)), 1, "near"), Ladder(THOUSANDS, 0, "near"),
                Ladder(THOUSANDS, 2, "near"), Ladder(THOUSANDS, 1, "even"), Ladder(THOUSANDS, 1, "near", carry=False),
                Ladder(THOUSANDS, 1, "near", least=2)):
            for one, two in ((ladder, other), (other, ladder)):
                self.assertIs(False, one == two)
                self.assertIs(True, one != two)

    def test_ladders_that_show_the_same_can_differ(self):
        self.assertFalse(Ladder(ONE, 1, "near") == Ladder(ONE, 1, "up"))

    def test_equal_to_nothing_else(self):
        ladder = Ladder(THOUSANDS, 1, "near")
        for other in [ladder.told, list(ladder.told), THOUSANDS, 3, True, "near", repr(ladder), Ladder] + odd_values():
            self.assertIs(False, ladder == other)
            self.assertIs(True, ladder != other)
            self.assertIs(False, other == ladder)
            self.assertIs(True, other != ladder)

    def test_among_other_values(self):
        ladder = Ladder(THOUSANDS, 1, "near")
        self.assertIn(ladder, [None, 5, Ladder(THOUSANDS, 1, "near")])
        self.assertEqual((ladder, 5), (Ladder(THOUSANDS, 1, "near"), 5))

    def test_defined_where_they_are_listed(self):
        for name in ("Ladder", "show", "worth", "is_shown"):
            self.assertEqual("shortfigures.ladders", getattr(ladders, name).__module__)
        for name in ("__init__", "__len__", "__repr__", "__eq__"):
            self.assertIn(name, Ladder.__dict__)


if __name__ == "__main__":
    unittest.main()
