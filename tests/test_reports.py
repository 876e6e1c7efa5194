"""Texts that list figures with their ranges."""

import random
import time
import unittest

from shortfigures import reports
from shortfigures.books import Book
from shortfigures.errors import InvalidNumber, NotABook, NotALadder, TooMany
from shortfigures.ladders import Ladder
from shortfigures.ranges import forms
from shortfigures.reports import book_report, range_table
from shortfigures.samples import sample_ladder
from tests.oracle import LARGE, LONG, SMALL, THOUSANDS, range_about, rules, runs, shown, telling_numbers
from tests.test_books import filled
from tests.test_columns import FINE
from tests.test_show import made
from tests.twins import CHOSEN, Twins, some_deed
from tests.values import NO_LADDERS, NO_NUMBERS, ErrorCase, odd_values

NEAR = Ladder(THOUSANDS, 1, "near")


def table(*lines):
    return "\n".join(lines)


class RangeTableTest(ErrorCase):

    def test_one_line(self):
        for low, high, line in ((0, 0, "0: 0-0"), (7, 7, "7: 7-7"), (1000, 1049, "1.0K: 1000-1049"),
                                (1010, 1010, "1.0K: 1000-1049"), (999950, 1049999, "1.0M: 999950-1049999"),
                                (10 ** 6, 10 ** 6, "1.0M: 999950-1049999")):
            self.assertEqual(line, range_table(NEAR, low, high))

    def test_several_lines(self):
        self.assertEqual(table("998: 998-998", "999: 999-999", "1.0K: 1000-1049", "1.1K: 1050-1149"),
                         range_table(NEAR, 998, 1060))
        self.assertEqual(table("999.8K: 999750-999849", "999.9K: 999850-999949", "1.0M: 999950-1049999",
                               "1.1M: 1050000-1149999"), range_table(NEAR, 999849, 1050000))
        self.assertEqual(table("999.9K: 999850-999949", "1000.0K: 999950-999999", "1.0M: 1000000-1049999"),
                         range_table(Ladder(THOUSANDS, 1, "near", carry=False), 999949, 10 ** 6))

    def test_whole_ranges_at_both_ends(self):
        self.assertEqual(table("1.0K: 1000-1049", "1.1K: 1050-1149"), range_table(NEAR, 1049, 1050))
        self.assertEqual("1.1K: 1050-1149", range_table(NEAR, 1051, 1148))

    def test_beyond_the_largest_number(self):
        self.assertEqual("1Q: 1000000000000000000-1999999999999999999",
                         range_table(Ladder(LONG, 0, "down"), 10 ** 18, 10 ** 18))
        self.assertEqual(table("1000000T: 999999000000000001-999999999999999999",
                               "1Q: 1000000000000000000-1000000000000000000"),
                         range_table(Ladder(LONG, 0, "up", carry=False), 10 ** 18 - 1, 10 ** 18))

    def test_200_lines_and_one_more(self):
        lines = range_table(NEAR, 0, 199).split("\n")
        self.assertEqual([f"{number}: {number}-{number}" for number in range(200)], lines)
        self.assertEqual(200, len(range_table(NEAR, 800, 999).split("\n")))
        self.assertEqual(200, len(range_table(NEAR, 801, 1000).split("\n")))
        self.assertEqual(200, len(range_table(NEAR, 801, 1049).split("\n")))
        for low, high in ((0, 200), (800, 1000), (801, 1050), (0, 999), (0, 10 ** 18), (10 ** 9, 10 ** 18)):
            with self.assertRaises(TooMany) as caught:
                range_table(NEAR, low, high)
            self.assertEqual(200, caught.exception.limit)

    def test_no_answer_takes_long(self):
        begin = time.perf_counter()
        for rule in [(FINE, 3, "even", True, 1000), (LONG, 2, "up", False, 1)]:
            for low in (0, 10 ** 9, 10 ** 18 - 10 ** 16):
                self.assertRaises(TooMany, range_table, made(rule), 0, 10 ** 18)
                for _ in range(10):
                    range_table(made(rule), low, low + 190)
        self.assertLess(time.perf_counter() - begin, 10)

    def test_beside_going_through_the_numbers(self):
        chance = random.Random(61)
        for rule in rules(SMALL, (1, 2, 3)):
            seen = runs(rule, 1400)
            for _ in range(4):
                low = chance.randrange(500)
                high = low + chance.choice((0, 1, chance.randrange(100)))
                lines = [f"{text}: {first}-{last}" for text, first, last in seen if last >= low and first <= high]
                self.assertEqual(lines, range_table(made(rule), low, high).split("\n"), (rule, low, high))

    def test_large_numbers_beside_showing_them(self):
        chance = random.Random(62)
        for rule in rules(LARGE, (1, 1000))[::3]:
            for number in chance.sample([number for number in telling_numbers(rule) if number < 10 ** 18], 12):
                high = min(10 ** 18, number + chance.choice((0, 1, 5000, 10 ** 6)))
                if forms(made(rule), number, high) > 200:
                    self.assertRaises(TooMany, range_table, made(rule), number, high)
                    continue
                lines, at = range_table(made(rule), number, high).split("\n"), number
                for line in lines:
                    first, last = range_about(rule, at)
                    self.assertEqual(f"{shown(rule, at)}: {first}-{last}", line)
                    at = last + 1
                self.assertTrue(last >= high and range_about(rule, high) == (first, last))

    def test_by_keyword(self):
        self.assertEqual("1.0K: 1000-1049", range_table(high=1049, low=1000, ladder=NEAR))

    def test_no_ladder(self):
        for value in NO_LADDERS:
            self.assert_value(NotALadder, value, range_table, value, 0, 5)
            self.assert_value(NotALadder, value, range_table, value, -1, -2)
            self.assert_value(NotALadder, value, range_table, high=None, low=None, ladder=value)
            self.assert_value(NotALadder, value, range_table, value, 0, 10 ** 18)

    def test_no_number(self):
        for value in NO_NUMBERS:
            with self.subTest(value=value):
                self.assert_value(InvalidNumber, value, range_table, NEAR, value, 5)
                self.assert_value(InvalidNumber, value, range_table, NEAR, value, None)
                self.assert_value(InvalidNumber, value, range_table, NEAR, 5, value)
                self.assert_value(InvalidNumber, value, range_table, high="no", low=value, ladder=NEAR)
                self.assert_value(InvalidNumber, value, range_table, high=value, low=0, ladder=NEAR)

    def test_bounds_in_a_wrong_order(self):
        for low, high in ((1, 0), (1001, 1000), (10 ** 18, 0), (10 ** 18, 10 ** 18 - 1)):
            self.assert_value(InvalidNumber, high, range_table, NEAR, low, high)
            self.assert_value(InvalidNumber, high, range_table, high=high, low=low, ladder=NEAR)


class BookReportTest(ErrorCase):

    def test_without_rows(self):
        book = Book(sample_ladder())
        self.assertEqual("-: 0-0", book_report(book))
        book.expect("0")
        self.assertEqual("0: 0-0", book_report(book))

    def test_without_a_total(self):
        self.assertEqual(table("1.5K: 1450-1549", "-: 1450-1549"), book_report(filled("1.5K")))
        self.assertEqual(table("1.0K: 1000-1049", "7: 7-7", "1.0K: 1000-1049", "-: 2007-2105"),
                         book_report(filled("1.0K", "7", "1.0K")))

    def test_with_a_total(self):
        book = filled("1.0K", "1.0K", total="2.1K")
        self.assertEqual(table("1.0K: 1001-1049", "1.0K: 1001-1049", "2.1K: 2050-2098"), book_report(book))
        book.expect(None)
        self.assertEqual(table("1.0K: 1000-1049", "1.0K: 1000-1049", "-: 2000-2098"), book_report(book))

    def test_twelve_rows(self):
        lines = book_report(filled(*["1.0K"] * 12, total="12.6K")).split("\n")
        self.assertEqual(["1.0K: 1011-1049"] * 12 + ["12.6K: 12550-12588"], lines)

    def test_large_rows(self):
        text = "9" * 23 + ".9M"
        low = (10 ** 24 - 1) * 10 ** 5 - 50000
        self.assertEqual(table(f"{text}: {low}-{low + 99999}", f"-: {low}-{low + 99999}"), book_report(filled(text)))

    def test_beside_the_book(self):
        chance = random.Random(63)
        for rule in CHOSEN:
            twins = Twins(self, rule)
            for _ in range(12):
                twins.do(some_deed(chance, twins))
                book = twins.book
                lines = [f"{text}: {low}-{high}" for text, (low, high) in zip(book.texts, book.ranges)]
                last = f"{'-' if book.total is None else book.total}: {book.sum[0]}-{book.sum[1]}"
                self.assertEqual("\n".join(lines + [last]), book_report(book))

    def test_during_do_all(self):
        book, seen = Book(sample_ladder()), []
        book.do_all(("add", "5"), ("expect", "5"), watch=lambda book, place: seen.append(book_report(book)))
        self.assertEqual([table("5: 5-5", "-: 5-5"), table("5: 5-5", "5: 5-5")], seen)

    def test_by_keyword(self):
        self.assertEqual("-: 0-0", book_report(book=Book(sample_ladder())))

    def test_no_book(self):
        for value in [sample_ladder(), "book", 5, True, Book, filled("5").texts] + odd_values():
            self.assert_value(NotABook, value, book_report, value)
            self.assert_value(NotABook, value, book_report, book=value)

    def test_defined_where_they_are_listed(self):
        for name in ("range_table", "book_report"):
            self.assertEqual("shortfigures.reports", getattr(reports, name).__module__)


if __name__ == "__main__":
    unittest.main()
