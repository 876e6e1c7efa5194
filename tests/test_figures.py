import unittest

from shortfigures.errors import InvalidFigure, NotALadder
from shortfigures.ladders import Ladder, is_shown, show, worth
from tests.oracle import LARGE, LEASTS, LONG, SMALL, THOUSANDS, rules, shown, step_of, telling_numbers, written
from tests.test_show import made
from tests.values import ErrorCase, odd_values

NEAR = Ladder(THOUSANDS, 1, "near")
PLAIN = Ladder(THOUSANDS, 0, "near")
FINE = Ladder((("", 1), ("K", 2000)), 3, "near")
NAMED = Ladder((("x", 1), ("", 20), ("Xyz", 100)), 1, "near")


class WorthTest(unittest.TestCase):

    def test_without_a_point(self):
        self.assertEqual([0, 7, 1000, 123456789], [worth(NEAR, text) for text in ("0", "7", "1000", "123456789")])
        self.assertEqual([0, 5000, 1000000, 7000000], [worth(PLAIN, text) for text in ("0K", "5K", "1000K", "7M")])

    def test_with_a_point(self):
        self.assertEqual([0, 100, 500, 1000, 1500, 1000000, 10 ** 6, 2300000],
                         [worth(NEAR, text) for text in
                          ("0.0K", "0.1K", "0.5K", "1.0K", "1.5K", "1000.0K", "1.0M", "2.3M")])
        self.assertEqual([0, 2, 10, 20, 200, 2000, 20002],
                         [worth(FINE, text) for text in
                          ("0.000K", "0.001K", "0.005K", "0.010K", "0.100K", "1.000K", "10.001K")])

    def test_units_without_a_name(self):
        self.assertEqual([5, 2, 20, 24, 10, 150], [worth(NAMED, text) for text in
                                                   ("5x", "0.1", "1.0", "1.2", "0.1Xyz", "1.5Xyz")])

    def test_each_figure_of_each_ladder(self):
        marks = list(range(120)) + [999, 1000, 1001, 9990, 10000, 123456, 10 ** 23, 10 ** 24 - 1]
        for rule in rules(SMALL + LARGE, (1, 10)):
            ladder = made(rule)
            for place in range(len(rule[0])):
                for mark in marks:
                    if worth(ladder, written(rule, place, mark)) != mark * step_of(rule, place):
                        self.fail((rule, place, mark))

    def test_at_most_24_digits(self):
        self.assertEqual(10 ** 24 - 1, worth(NEAR, "9" * 24))
        self.assertEqual(10 ** 23, worth(NEAR, "1" + "0" * 23))
        self.assertEqual((10 ** 24 - 1) * 100, worth(NEAR, "9" * 23 + ".9K"))
        self.assertEqual((10 ** 24 - 1) * 1000, worth(PLAIN, "9" * 24 + "K"))
        self.assertEqual((10 ** 24 - 1) * 2, worth(FINE, "9" * 21 + ".999K"))

    def test_by_keyword(self):
        self.assertEqual(1500, worth(text="1.5K", ladder=NEAR))
        self.assertIs(True, is_shown(text="1.5K", ladder=NEAR))

    def test_what_is_shown_has_a_worth_near_the_number(self):
        for rule in rules(LARGE, (1,)):
            ladder = made(rule)
            for number in telling_numbers(rule)[::5]:
                text = show(ladder, number)
                self.assertLess(abs(worth(ladder, text) - number), max(step_of(rule, k) for k in range(len(rule[0]))))


class IsShownTest(unittest.TestCase):

    def check(self, ladder, yes, no):
        for text in yes:
            self.assertIs(True, is_shown(ladder, text), text)
        for text in no:
            self.assertIs(False, is_shown(ladder, text), text)

    def test_ordinary_figures(self):
        self.check(NEAR, ("0", "999", "1.0K", "1.1K", "999.9K", "1.0M", "1.1M", "1000.0M"),
                   ("1000", "0.5K", "0.9K", "0.0K", "1000.0K", "1000.1K", "0.9M", "0.0M"))

    def test_without_carry(self):
        self.check(Ladder(THOUSANDS, 1, "near", carry=False), ("1000.0K", "1.0M"), ("1000.1K", "1000", "0.9M"))
        self.check(Ladder(THOUSANDS, 1, "up", carry=False), ("1000.0K", "1.0M"), ("1000.1K", "1000", "0.9M"))
        self.check(Ladder(THOUSANDS, 1, "even", carry=False), ("1000.0K", "1.0M"), ("1000.1K", "1000", "0.9M"))
        self.check(Ladder(THOUSANDS, 1, "down", carry=False), ("999.9K", "1.0M"), ("1000.0K", "1000", "0.9M"))

    def test_even_with_a_threshold_between(self):
        units = (("", 1), ("A", 2), ("B", 6))
        self.check(Ladder(units, 0, "even", carry=False), ("1", "1A", "2A", "1B"), ("2", "3A", "0A", "0B"))
        self.check(Ladder(units, 0, "near", carry=False), ("1", "1A", "2A", "3A", "1B"), ("2", "4A", "0A", "0B"))
        self.check(Ladder(units, 0, "near"), ("1", "1A", "2A", "1B"), ("2", "3A", "4A", "0A", "0B"))

    def test_least(self):
        ladder = Ladder(THOUSANDS, 1, "near", least=10)
        self.check(ladder, ("9999", "10.0K", "9999.9K", "10.0M"), ("10000", "9.9K", "10000.0K", "9.9M"))
        ladder = Ladder(THOUSANDS, 1, "near", carry=False, least=10)
        self.check(ladder, ("9999", "10.0K", "10000.0K", "10.0M"), ("10000", "9.9K", "10000.1K", "9.9M"))

    def test_figures_of_numbers_beyond_the_largest_one(self):
        self.check(NEAR, ("9" * 23 + ".9M", "1000000000000.1M"), ("9" * 24, "9" * 23 + ".9K"))
        self.check(Ladder(LONG, 1, "near", least=1000), ("1000.0Q", "9" * 23 + ".9Q", "1000.0T"),
                   ("999.9Q", "1.0Q", "999.9T", "1000000000.0T"))
        self.check(Ladder((("", 1),), 2, "up"), ("0", "1", "9" * 24), ())

    def test_beside_going_through_the_numbers(self):
        last = 2500
        for rule in rules(SMALL, (1, 2, 3, 7)):
            ladder = made(rule)
            seen = {shown(rule, number) for number in range(last + 1)}
            for place in range(len(rule[0])):
                step = step_of(rule, place)
                # Behind this worth, some numbers that show the figure might lie behind the last one.
                for mark in range(min(1500, last // step)):
                    text = written(rule, place, mark)
                    if is_shown(ladder, text) is not (text in seen):
                        self.fail((rule, text))

    def test_what_is_shown_is_shown(self):
        for rule in rules(LARGE, LEASTS):
            ladder = made(rule)
            for number in telling_numbers(rule)[::3]:
                self.assertIs(True, is_shown(ladder, show(ladder, number)))

    def test_figures_just_outside_a_unit(self):
        for rule in rules(LARGE, LEASTS):
            units, decimals, rounding, carry, least = rule
            ladder = made(rule)
            for place in range(1, len(units)):
                below = least * 10 ** decimals - 1
                self.assertIs(False, is_shown(ladder, written(rule, place, below)))
                self.assertIs(True, is_shown(ladder, written(rule, place, below + 1)))
                end = units[place][1] * least // step_of(rule, place - 1)
                self.assertIs(True, is_shown(ladder, written(rule, place - 1, end - 1)))
                shown_at_end = place > 1 and rounding != "down" and not carry
                self.assertIs(shown_at_end, is_shown(ladder, written(rule, place - 1, end)), (rule, place))
                self.assertIs(False, is_shown(ladder, written(rule, place - 1, end + 1)))


class WrongArgumentsTest(ErrorCase):

    def assert_no_figure(self, ladder, value):
        with self.subTest(value=value):
            self.assert_value(InvalidFigure, value, worth, ladder, value)
            self.assert_value(InvalidFigure, value, is_shown, ladder, value)
            self.assert_value(InvalidFigure, value, worth, text=value, ladder=ladder)
            self.assert_value(InvalidFigure, value, is_shown, text=value, ladder=ladder)

    def test_no_strings(self):
        for value in [5, 0, True, False, b"5", b"1.0K", ("1.0K",), ["1.0K"], NEAR] + odd_values():
            self.assert_no_figure(NEAR, value)

    def test_missing_or_wrong_parts(self):
        for text in ("", "K", ".", ".K", ".5K", "1.K", "1K", "1.00K", "10K", "1.0", "0.0", "1.0B", "1.0k", "1.0KM",
                     "1.0KK", "1.0MK", "1.0Kilo", "K1.0", "1.0.0K", "1..0K", "..1K", "1.K0", "1K.0", "1.0K.", ".1.0K",
                     "5K0", "1.0K5", "5x", "10.", "100.0", "1,0K", "1.0,K"):
            self.assert_no_figure(NEAR, text)
        for text in ("1.0K", "1.K", ".1K", "0.5K", "1.", "K", "1k"):
            self.assert_no_figure(PLAIN, text)
        for text in ("1.00K", "1.0000K", "1K", "0.05K", ".005K", "0.0005K", "5K", "005K"):
            self.assert_no_figure(FINE, text)
        for text in ("5", "1", "1.0x", "5X", "1.0xyz", "1.0Xy", "1.0xXyz", "5Xyz", "5xx"):
            self.assert_no_figure(NAMED, text)

    def test_zeros_ahead(self):
        for text in ("00", "01", "007", "00.5K", "01.0K", "00.0K", "010.0K", "0" * 30, "0" * 25 + "1"):
            self.assert_no_figure(NEAR, text)
        for text in ("00K", "01K", "00", "05"):
            self.assert_no_figure(PLAIN, text)

    def test_signs_and_other_characters(self):
        for text in ("-1", "+1", "-0", "+0", "-1.0K", "+1.0K", "1_000", "1,000", "1e3", "1E3", "0x1", "0b1", "1.0-K",
                     "1.0_K", " 1", "1 ", "1\n", "\n1", "1\t", "1.0 K", "1.0K ", " 1.0K", "1. 0K", "1.0K\n", "1\0",
                     "\0", "%", "1.0K\r", "1'000", "1/2", "(1)", "$1", "1:", "1.0;K", "nan", "inf"):
            self.assert_no_figure(NEAR, text)

    def test_characters_that_are_not_ascii(self):
        for text in ("\u0661", "\u0661\u0662", "\u00b2", "\u2460", "\uff11", "1\u0660", "\u0661.\u0660K", "1.\u0660K",
                     "1\uff0e0K", "1\u00b70K", "1.0\u212a", "1.0\uff2b", "1.0\u041a", "\u0967", "\u00bd", "1\u00a0",
                     "\u20071", "1.0K\u200b", "\ufeff1", "1.0\u00b2K", "\ud835\udfcf", "\U0001d7cf"):
            self.assert_no_figure(NEAR, text)

    def test_25_digits(self):
        self.assert_no_figure(NEAR, "1" + "0" * 24)
        self.assert_no_figure(NEAR, "9" * 25)
        self.assert_no_figure(NEAR, "1" + "0" * 23 + ".0K")
        self.assert_no_figure(NEAR, "9" * 24 + ".9M")
        self.assert_no_figure(PLAIN, "9" * 25 + "K")
        self.assert_no_figure(FINE, "1" + "0" * 21 + ".000K")
        self.assert_no_figure(NEAR, "9" * 200)

    def test_no_ladder(self):
        for value in [NEAR.told, 5, True, "", "1.0K", Ladder] + odd_values():
            with self.subTest(value=value):
                for act in (worth, is_shown):
                    self.assert_value(NotALadder, value, act, value, "1.0K")
                    self.assert_value(NotALadder, value, act, value, None)
                    self.assert_value(NotALadder, value, act, text="no", ladder=value)


if __name__ == "__main__":
    unittest.main()
