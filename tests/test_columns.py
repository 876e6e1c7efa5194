"""Columns, beside going through all numbers of small rows, and beside showing sums of large ones."""

import itertools
import math
import random
import time
import unittest

from shortfigures.columns import column, numbers_for, rows_for, sum_range, sure_total, totals
from shortfigures.errors import InvalidFigure, InvalidTexts, NotALadder
from shortfigures.ladders import Ladder
from tests.oracle import (
    LARGE, LONG, ROUNDINGS, SMALL, THOUSANDS, placed, range_about, rules, runs, shown, telling_numbers, written)
from tests.test_show import made
from tests.values import NO_FIGURES, NO_LADDERS, UNSHOWN, ErrorCase

NEAR = Ladder(THOUSANDS, 1, "near")
UP = Ladder(THOUSANDS, 1, "up")
ONE = Ladder((("x", 1),), 0, "near")
ROWS_ONLY = (sum_range, totals, sure_total)
WITH_TOTAL = (column, numbers_for, rows_for)
# Six units up to 10 ** 18, with three decimals.
FINE = (("", 1), ("K", 2000), ("M", 2 * 10 ** 6), ("B", 2 * 10 ** 9), ("T", 2 * 10 ** 12), ("Q", 10 ** 18))
LAST = 300


class SmallColumn:
    """All that can be true of a column, by going through all numbers of its rows."""

    def __init__(self, rule, seen, texts, total):
        ranges = {text: (low, high) for text, low, high in seen}
        self.found = None
        self.sums = None
        if any(text not in ranges for text in texts):
            return
        every = list(itertools.product(*[range(ranges[text][0], ranges[text][1] + 1) for text in texts]))
        self.sums = sorted({sum(numbers) for numbers in every})
        self.shown = [shown(rule, number) for number in self.sums]
        self.found = [numbers for numbers in every if shown(rule, sum(numbers)) == total]

    def column(self):
        """Return what `column` has to return."""
        if not self.found:
            return None
        sums = [sum(numbers) for numbers in self.found]
        rows = tuple((min(row), max(row)) for row in zip(*self.found))
        return rows, (min(sums), max(sums))

    def has_no_gaps(self):
        """Tell whether the rows and the sums can have all numbers between their ends."""
        several = list(zip(*self.found)) + [[sum(numbers) for numbers in self.found], self.sums]
        return all(set(some) == set(range(min(some), max(some) + 1)) for some in several if some)


def rows_for_seen(rule, seen, small, total):
    """Return the list of all figures one more row can have, in their order."""
    last = seen[[text for text, _, _ in seen].index(total)][2] if total in [text for text, _, _ in seen] else -1
    return [text for text, low, high in seen if low <= last
            and any(shown(rule, number + other) == total for number in range(low, min(high, last) + 1)
                    for other in small.sums)]


def some_column(chance, rule, seen):
    """Return rows and a total, which mostly are not far from being possible, and sometimes are not shown."""
    while True:
        end = chance.choice((3, 20, 60))
        rows = [chance.choice(seen[:end]) for _ in range(chance.randrange(5))]
        if math.prod(high - low + 1 for _, low, high in rows) <= 400 and sum(high for _, _, high in rows) <= 150:
            break
    texts = [text for text, _, _ in rows]
    number = sum(chance.randrange(low, high + 1) for _, low, high in rows)
    total = shown(rule, max(0, number + chance.choice((0, 0, 0, 1, -1, chance.randrange(-12, 13)))))
    if chance.random() < 0.05:
        total = written(rule, len(rule[0]) - 1, 0)
    if texts and chance.random() < 0.05:
        texts[chance.randrange(len(texts))] = written(rule, len(rule[0]) - 1, 0)
    return tuple(texts), total


class SmallColumnsTest(unittest.TestCase):

    def check_sums(self, rule, texts, small):
        ladder = made(rule)
        if small.sums is None:
            self.assertEqual([None] * 3, [act(ladder, texts) for act in ROWS_ONLY])
            return
        figures = list(dict.fromkeys(small.shown))
        self.assertEqual((small.sums[0], small.sums[-1]), sum_range(ladder, texts))
        self.assertEqual((figures[0], figures[-1], len(figures)), totals(ladder, texts))
        self.assertEqual(figures[0] if len(figures) == 1 else None, sure_total(ladder, texts))

    def check_rows(self, rule, seen, texts, total, small):
        found = rows_for(made(rule), texts, total)
        fitting = [] if small.sums is None else rows_for_seen(rule, seen, small, total)
        self.assertEqual((fitting[0], fitting[-1]) if fitting else None, found)
        if fitting:
            names = [text for text, _, _ in seen]
            self.assertEqual(names[names.index(found[0]):names.index(found[1]) + 1], fitting)
        return bool(fitting)

    def test_beside_going_through_the_numbers(self):
        chance = random.Random(21)
        kinds = {}
        for rule in rules(SMALL, (1, 2, 3)):
            seen = runs(rule, LAST)
            for _ in range(7):
                texts, total = some_column(chance, rule, seen)
                small = SmallColumn(rule, seen, texts, total)
                with self.subTest(rule=rule, texts=texts, total=total):
                    self.check_sums(rule, texts, small)
                    self.assertEqual(small.column(), column(made(rule), texts, total))
                    numbers = numbers_for(made(rule), texts, total)
                    if small.found:
                        self.assertTrue(small.has_no_gaps())
                        self.assertIn(numbers, small.found)
                    else:
                        self.assertIsNone(numbers)
                    more = self.check_rows(rule, seen, texts, total, small)
                kind = (len(texts), small.sums is None, bool(small.found), more)
                kinds[kind] = kinds.get(kind, 0) + 1
        for many in range(5):
            self.assertGreater(kinds.get((many, False, True, True), 0), 20, many)
            self.assertGreater(kinds.get((many, False, False, True), 0), 10, many)
            self.assertGreater(kinds.get((many, False, False, False), 0), 3, many)
            self.assertTrue(many == 0 or kinds.get((many, True, False, False), 0) > 3, many)


class ChosenColumnsTest(unittest.TestCase):

    def check(self, texts, total, found, more, ladder=NEAR):
        """Check what is found for a column, also if its rows come in another order."""
        self.assertEqual(found, column(ladder, texts, total))
        self.assertEqual(more, rows_for(ladder, texts, total))
        numbers = numbers_for(ladder, texts, total)
        self.assertEqual(found is None, numbers is None)
        if found is not None:
            self.assertIsInstance(numbers, tuple)
            self.assertEqual(len(texts), len(numbers))
            for number, (low, high) in zip(numbers, found[0]):
                self.assertTrue(low <= number <= high)
            self.assertTrue(found[1][0] <= sum(numbers) <= found[1][1])
            turned = (found[0][::-1], found[1])
            self.assertEqual(turned, column(ladder, texts[::-1], total))
        else:
            self.assertIsNone(column(ladder, texts[::-1], total))
        self.assertEqual(more, rows_for(ladder, texts[::-1], total))

    def test_no_rows(self):
        for ladder, zero in ((NEAR, "0"), (UP, "0"), (ONE, "0x")):
            self.assertEqual((0, 0), sum_range(ladder, ()))
            self.assertEqual((zero, zero, 1), totals(ladder, ()))
            self.assertEqual(zero, sure_total(ladder, ()))
            self.check((), zero, ((), (0, 0)), (zero, zero), ladder)
            self.assertEqual((), numbers_for(ladder, (), zero))
        self.check((), "1", None, ("1", "1"))
        self.check((), "1.0K", None, ("1.0K", "1.0K"))
        self.check((), "1.1K", None, ("1.1K", "1.1K"))
        self.check((), "0.5K", None, None)
        self.check((), "9" * 23 + ".9M", None, ("9" * 23 + ".9M",) * 2)

    def test_one_row(self):
        self.assertEqual((1000, 1049), sum_range(NEAR, ("1.0K",)))
        self.assertEqual("1.0K", sure_total(NEAR, ("1.0K",)))
        self.check(("1.0K",), "1.0K", (((1000, 1049),), (1000, 1049)), ("0", "49"))
        self.check(("1.0K",), "1.1K", None, ("1", "149"))
        self.check(("1.1K",), "1.0K", None, None)
        self.check(("7",), "7", (((7, 7),), (7, 7)), ("0", "0"))
        self.check(("7",), "8", None, ("1", "1"))
        self.check(("7",), "6", None, None)

    def test_two_rows(self):
        rows = ("1.0K", "1.0K")
        self.assertEqual((2000, 2098), sum_range(NEAR, rows))
        self.assertEqual(("2.0K", "2.1K", 2), totals(NEAR, rows))
        self.check(rows, "2.0K", (((1000, 1049), (1000, 1049)), (2000, 2049)), ("0", "49"))
        self.check(rows, "2.1K", (((1001, 1049), (1001, 1049)), (2050, 2098)), ("0", "149"))
        self.check(rows, "2.2K", None, ("52", "249"))
        self.check(rows, "1.9K", None, None)
        self.check(rows, "2.4K", None, ("252", "449"))
        self.check(("1.0K", "500"), "1.5K", (((1000, 1049), (500, 500)), (1500, 1549)), ("0", "49"))
        self.check(("1.0K", "520"), "1.5K", (((1000, 1029), (520, 520)), (1520, 1549)), ("0", "29"))
        self.check(("1.0K", "520"), "1.6K", (((1030, 1049), (520, 520)), (1550, 1569)), ("0", "129"))

    def test_many_totals(self):
        self.assertEqual(("2.0M", "2.1M", 2), totals(Ladder(THOUSANDS, 1, "down"), ("1.0M", "1.0M")))
        self.assertEqual(("2.0M", "2.1M", 2), totals(NEAR, ("1.0M", "1.0M")))
        self.assertEqual(("2.1M", "2.3M", 3), totals(NEAR, ("1.1M", "1.1M")))
        self.assertEqual((12000, 12588), sum_range(NEAR, ("1.0K",) * 12))
        self.assertEqual(("12.0K", "12.6K", 7), totals(NEAR, ("1.0K",) * 12))
        self.assertEqual(("999.9K", "1.0M", 2), totals(NEAR, ("999.9K", "50")))
        self.assertEqual(("5", "5", 1), totals(NEAR, ("2", "3")))
        self.assertEqual(("999", "999", 1), totals(NEAR, ("998", "1")))
        self.assertEqual(("1.0K", "1.0K", 1), totals(NEAR, ("999", "1")))

    def test_sure_totals(self):
        self.assertEqual("1.0K", sure_total(NEAR, ("500", "500")))
        self.assertEqual("1.1K", sure_total(NEAR, ("500", "550")))
        self.assertEqual("2.0K", sure_total(UP, ("1.0K", "1.0K")))
        self.assertEqual("1M", sure_total(Ladder(THOUSANDS, 0, "near"), ("0", "1M", "0")))
        self.assertIsNone(sure_total(NEAR, ("1.0K", "1.0K")))
        self.assertIsNone(sure_total(NEAR, ("1.0K", "1")))

    def test_a_total_that_leaves_one_number_to_each_row(self):
        self.check(("1.0K", "1.0K"), "2.0K", (((1000, 1000), (1000, 1000)), (2000, 2000)), ("0", "0"), UP)
        self.check(("1.1K", "1.1K"), "2.0K", None, None, UP)
        self.check(("1.1K", "1.1K"), "2.1K", (((1001, 1099), (1001, 1099)), (2002, 2100)), ("0", "98"), UP)
        down = Ladder(THOUSANDS, 1, "down")
        self.check(("1.1K", "1.1K"), "2.2K", (((1100, 1199),) * 2, (2200, 2299)), ("0", "99"), down)
        self.check(("1.1K", "999"), "2.1K", (((1101, 1199), (999, 999)), (2100, 2198)), ("0", "100"), down)
        one = (("", 1), ("A", 2))
        for rounding, texts, total in (("near", ("1A", "1A"), "2A"), ("up", ("1A", "1A"), "2A"),
                                       ("even", ("1A", "1A"), "2A")):
            self.check(texts, total, (((2, 2), (2, 2)), (4, 4)), ("0", "1" if rounding == "even" else "0"),
                       Ladder(one, 0, rounding))
        # The smallest numbers of all rows just do not pass the total, or the greatest ones just reach it.
        self.check(("1.0K", "1.0K", "49"), "2.0K", (((1000, 1000), (1000, 1000), (49, 49)), (2049, 2049)), ("0", "0"))
        self.check(("1.0K", "1.0K", "50"), "2.0K", None, None)
        self.check(("1.0K", "1.0K", "52"), "2.2K", (((1049, 1049), (1049, 1049), (52, 52)), (2150, 2150)), ("0", "197"))
        self.check(("1.0K", "1.0K", "51"), "2.2K", None, ("1", "198"))
        # They do so with something to spare.
        self.check(("1.1K",) * 2, "2.3K", (((1101, 1149),) * 2, (2250, 2298)), ("0", "249"))
        self.check(("1.0K",) * 3, "3.1K", (((1000, 1049),) * 3, (3050, 3147)), ("0", "149"))
        self.check(("1.0K",) * 12, "12.6K", (((1011, 1049),) * 12, (12550, 12588)), ("0", "649"))
        self.check(("1.0K", "1.0K", "2"), "2.1K", (((1000, 1049),) * 2 + ((2, 2),), (2050, 2100)), ("0", "147"))

    def test_an_impossible_total(self):
        for total in ("0", "1", "999", "1.0K", "1.9K", "2.2K", "3.0K", "1.0M", "9" * 23 + ".9M"):
            self.assertIsNone(column(NEAR, ("1.0K", "1.0K"), total))
            self.assertIsNone(numbers_for(NEAR, ("1.0K", "1.0K"), total))

    def test_totals_that_are_not_shown(self):
        for total in UNSHOWN:
            for texts in ((), ("1.0K",), ("7", "8"), ("1.0K",) * 12, ("0.5K",)):
                self.check(texts, total, None, None)

    def test_rows_that_are_not_shown(self):
        for text in UNSHOWN:
            for texts in ((text,), (text, "1.0K"), ("1.0K", text), ("1.0K",) * 11 + (text,), (text,) * 12):
                self.assertEqual([None] * 3, [act(NEAR, texts) for act in ROWS_ONLY])
                for total in ("0", "1.0K", "2.0K", "12.0K", "0.5K", text):
                    self.check(texts, total, None, None)

    def test_marks_with_24_digits(self):
        nines = "9" * 24 + "x"
        self.assertEqual((2 * 10 ** 24 - 2,) * 2, sum_range(ONE, (nines, nines)))
        self.assertEqual(("1" + "9" * 23 + "8x",) * 2 + (1,), totals(ONE, (nines, nines)))
        self.assertEqual("1" + "9" * 23 + "8x", sure_total(ONE, (nines, nines)))
        self.check((nines,), nines, (((10 ** 24 - 1,) * 2,), (10 ** 24 - 1,) * 2), ("0x", "0x"), ONE)
        self.check(("1x",), nines, None, ("9" * 23 + "8x",) * 2, ONE)
        self.check((nines, nines), nines, None, None, ONE)
        text, least = "9" * 23 + ".9M", (10 ** 24 - 1) * 10 ** 5 - 50000
        self.assertEqual((12 * least, 12 * (least + 99999)), sum_range(NEAR, (text,) * 12))
        first, last, many = totals(NEAR, (text,) * 12)
        self.assertEqual(["11" + "9" * 22 + "8.2M", "11" + "9" * 22 + "9.4M", 13], [first, last, many])
        self.check((text,), text, (((least, least + 99999),), (least, least + 99999)), ("0", "100.0K"))
        self.check((text, "1.0K"), text, (((least, least + 98999), (1000, 1049)), (least + 1000, least + 99999)),
                   ("0", "99.0K"))

    def test_one_more_row_beside_twelve(self):
        self.check(("1.0K",) * 12, "12.0K", (((1000, 1049),) * 12, (12000, 12049)), ("0", "49"))
        self.check(("1.0K",) * 12, "13.0K", None, ("362", "1.0K"))
        self.check(("1.0K",) * 12, "1.0M", None, ("987.4K", "1.0M"))
        self.check(("0",) * 12, "7", None, ("7", "7"))
        self.check(("0",) * 12, "0", (((0, 0),) * 12, (0, 0)), ("0", "0"))

    def test_sums_across_thresholds(self):
        for rounding, low, high in (("down", 999999, 999999), ("up", 999900, 999900), ("near", 999949, 999949),
                                    ("even", 999949, 999949)):
            self.assertEqual((((low, high), (1, 1)), (low + 1, high + 1)),
                             column(Ladder(THOUSANDS, 1, rounding), ("999.9K", "1"), "1.0M"))
        self.assertEqual((((999949, 999949), (1, 1)), (999950, 999950)),
                         column(Ladder(THOUSANDS, 1, "near", carry=False), ("999.9K", "1"), "1000.0K"))
        self.assertEqual((((999999, 999999), (1, 1)), (10 ** 6, 10 ** 6)),
                         column(Ladder(THOUSANDS, 1, "near", carry=False), ("1000.0K", "1"), "1.0M"))


class LargeColumnsTest(unittest.TestCase):

    def some_rows(self, chance, rule):
        numbers = telling_numbers(rule)
        low = chance.randrange(len(numbers))
        return [chance.choice(numbers[:chance.choice((low + 1, len(numbers)))]) for _ in range(12)]

    def check_possible(self, rule, ranges, total, found):
        """Check ranges by showing the sums at their ends, and beside them."""
        low, high = sum(low for low, _ in ranges), sum(high for _, high in ranges)
        rows, sums = found
        self.assertEqual([total, total], [shown(rule, number) for number in sums])
        self.assertTrue(sums[0] == low or shown(rule, sums[0] - 1) != total)
        self.assertTrue(sums[1] == high or shown(rule, sums[1] + 1) != total)
        self.assertTrue(low <= sums[0] <= sums[1] <= high)
        wanted = placed(rule, sums[0])
        for (own_low, own_high), (row_low, row_high) in zip(ranges, rows):
            self.assertTrue(own_low <= row_low <= row_high <= own_high)
            # The greatest numbers of the other rows with the smallest one of this row, and the other way round.
            greatest = row_low + high - own_high
            self.assertLessEqual(wanted, placed(rule, greatest))
            self.assertTrue(row_low == own_low or placed(rule, greatest - 1) < wanted)
            smallest = row_high + low - own_low
            self.assertLessEqual(placed(rule, smallest), wanted)
            self.assertTrue(row_high == own_high or placed(rule, smallest + 1) > wanted)

    def check_numbers(self, rule, texts, total, numbers):
        self.assertEqual(texts, tuple(shown(rule, number) for number in numbers))
        self.assertEqual(total, shown(rule, sum(numbers)))

    def check_rows(self, rule, ranges, total_range, found):
        """Check the two figures for one more row, and those beside them, by showing their sums."""
        low, high = sum(low for low, _ in ranges), sum(high for _, high in ranges)
        wanted = placed(rule, total_range[0])
        if total_range[1] < low:
            self.assertIsNone(found)
            return
        first, last = found
        at, end = max(0, total_range[0] - high), total_range[1] - low
        self.assertEqual((shown(rule, at), shown(rule, end)), (first, last))
        before, behind = range_about(rule, at)[0] - 1, range_about(rule, end)[1] + 1
        self.assertTrue(before < 0 or placed(rule, before + high) < wanted)
        self.assertTrue(placed(rule, behind + low) > wanted)
        for number in (at, (at + end) // 2, end):
            self.assertTrue(placed(rule, number + low) <= wanted <= placed(rule, number + high))

    def check_column(self, rule, numbers, total):
        texts, ladder = tuple(shown(rule, number) for number in numbers), made(rule)
        ranges = [range_about(rule, number) for number in numbers]
        low, high = sum(low for low, _ in ranges), sum(high for _, high in ranges)
        self.assertEqual((low, high), sum_range(ladder, texts))
        first, last, many = totals(ladder, texts)
        self.assertEqual((shown(rule, low), shown(rule, high)), (first, last))
        self.assertEqual(placed(rule, low) == placed(rule, high), many == 1)
        (unit, mark), (last_unit, last_mark) = placed(rule, low), placed(rule, high)
        if unit == last_unit:
            self.assertEqual(last_mark - mark + 1, many)
        text, total_range = shown(rule, total), range_about(rule, total)
        found = column(ladder, texts, text)
        self.assertEqual(total_range[0] > high or total_range[1] < low, found is None)
        if found is None:
            self.assertIsNone(numbers_for(ladder, texts, text))
        else:
            self.check_possible(rule, ranges, text, found)
            self.check_numbers(rule, texts, text, numbers_for(ladder, texts, text))
        self.check_rows(rule, ranges, total_range, rows_for(ladder, texts, text))
        return found is not None

    def test_twelve_rows_beside_showing_sums(self):
        chance = random.Random(22)
        possible = [0, 0]
        fine = [(FINE, decimals, rounding, carry, least) for decimals in (1, 3) for rounding in ROUNDINGS
                for carry in (False, True) for least in (1, 1000)]
        for rule in rules(LARGE, (1, 10, 1000))[::3] + fine:
            numbers = self.some_rows(chance, rule)
            ranges = [range_about(rule, number) for number in numbers]
            low, high = sum(low for low, _ in ranges), sum(high for _, high in ranges)
            for total in (sum(numbers), low, high, range_about(rule, low)[0] - 1, range_about(rule, high)[1] + 1):
                if total >= 0:
                    possible[self.check_column(rule, numbers, total)] += 1
        self.assertGreater(min(possible), 50)

    def test_no_answer_takes_long(self):
        rule = (FINE, 3, "even", True, 1000)
        texts = tuple(shown(rule, number) for number in telling_numbers(rule)[::len(telling_numbers(rule)) // 11])[:12]
        self.assertEqual(12, len(texts))
        ladder, begin = made(rule), time.perf_counter()
        for _ in range(50):
            first, last, _ = totals(ladder, texts)
            self.assertIsNotNone(column(ladder, texts, last))
            self.assertIsNotNone(numbers_for(ladder, texts, first))
            self.assertIsNotNone(rows_for(ladder, texts, last))
            self.assertIsNotNone(sum_range(ladder, texts))
            sure_total(ladder, texts)
        self.assertLess(time.perf_counter() - begin, 10)

    def test_the_largest_unit(self):
        rule = (LONG, 2, "near", True, 1000)
        self.assertTrue(self.check_column(rule, [999 * 10 ** 18] * 12, 12 * 999 * 10 ** 18))
        self.assertTrue(self.check_column(rule, [10 ** 22] * 12, 12 * 10 ** 22))


class ArgumentsTest(ErrorCase):

    def test_by_keyword(self):
        rows = ("1.0K", "1.0K")
        self.assertEqual([(2000, 2098), ("2.0K", "2.1K", 2), None],
                         [act(texts=rows, ladder=NEAR) for act in ROWS_ONLY])
        self.assertEqual([column(NEAR, rows, "2.1K"), numbers_for(NEAR, rows, "2.1K"), ("0", "149")],
                         [act(total="2.1K", texts=rows, ladder=NEAR) for act in WITH_TOTAL])

    def test_equal_calls(self):
        for total in ("2.0K", "2.1K"):
            self.assertEqual(numbers_for(NEAR, ("1.0K", "1.0K"), total),
                             numbers_for(Ladder(THOUSANDS, 1, "near"), ("1.0K",) * 2, total))

    def test_no_ladder(self):
        for value in NO_LADDERS:
            with self.subTest(value=value):
                for act in ROWS_ONLY:
                    self.assert_value(NotALadder, value, act, value, ("1.0K",))
                    self.assert_value(NotALadder, value, act, texts=None, ladder=value)
                for act in WITH_TOTAL:
                    self.assert_value(NotALadder, value, act, value, ("1.0K",), "1.0K")
                    self.assert_value(NotALadder, value, act, value, ("no",), "no")
                    self.assert_value(NotALadder, value, act, total=None, texts=None, ladder=value)

    def test_no_texts(self):
        for act in ROWS_ONLY:
            self.assert_bad_texts(InvalidTexts, lambda texts: act(NEAR, texts))
            self.assert_bad_texts(InvalidTexts, lambda texts: act(texts=texts, ladder=NEAR))
        for act in WITH_TOTAL:
            self.assert_bad_texts(InvalidTexts, lambda texts: act(NEAR, texts, "1.0K"))
            self.assert_bad_texts(InvalidTexts, lambda texts: act(NEAR, texts, None))
            self.assert_bad_texts(InvalidTexts, lambda texts: act(total="1K", texts=texts, ladder=NEAR))

    def test_no_total(self):
        for value in NO_FIGURES:
            with self.subTest(value=value):
                for act in WITH_TOTAL:
                    self.assert_value(InvalidFigure, value, act, NEAR, (), value)
                    self.assert_value(InvalidFigure, value, act, NEAR, ("1.0K",), value)
                    self.assert_value(InvalidFigure, value, act, NEAR, ("0.5K",), value)
                    self.assert_value(InvalidFigure, value, act, total=value, texts=("1.0K",) * 12, ladder=NEAR)

    def test_a_returned_figure_with_more_than_24_digits(self):
        nines = "9" * 24 + "x"
        total = sure_total(ONE, (nines, nines))
        self.assertEqual(26, len(total))
        for act in WITH_TOTAL:
            self.assert_value(InvalidFigure, total, act, ONE, (nines, nines), total)


if __name__ == "__main__":
    unittest.main()
