"""The examples of the document, and those of the README."""

import doctest
import pathlib
import unittest

from shortfigures.alike import are_alike, first_drift, first_unlike, is_steady
from shortfigures.books import Book, attempt
from shortfigures.certificates import certify_column, certify_steady, certify_tells
from shortfigures.changes import always_rise, compared, difference, first_fall, least_rising, rising
from shortfigures.checker import holds
from shortfigures.columns import column, rows_for, sum_range, sure_total, totals
from shortfigures.console import Console
from shortfigures.families import fitting, parting
from shortfigures.ladders import Ladder, is_shown, show, worth
from shortfigures.ranges import figure_at, forms, hidden, next_figure, place_of, previous_figure, range_of, widest
from shortfigures.reports import book_report, range_table
from shortfigures.samples import sample_ladder
from shortfigures.sights import needed, numbers_of, only_number
from shortfigures.tells import figures_in, first_untold, tells

UNITS = (("", 1), ("K", 1000), ("M", 1000000))


class ExamplesTest(unittest.TestCase):

    def test_ladders(self):
        units = (("", 1), ("K", 1000), ("M", 1000000))
        ladder = Ladder(units, 1, "near")
        self.assertEqual(
            ["999", "1.0K", "1.1K", "999.9K", "1.0M", "1000.0K", "9999"],
            [show(ladder, 999), show(ladder, 1049), show(ladder, 1050), show(ladder, 999949), show(ladder, 999950),
             show(Ladder(units, 1, "near", carry=False), 999950), show(Ladder(units, 1, "down", least=10), 9999)])
        self.assertEqual(
            [1000000, False, 500, False, "Ladder(3 units, 1 decimals, near)", 3],
            [worth(ladder, "1000.0K"), is_shown(ladder, "1000.0K"), worth(ladder, "0.5K"), is_shown(ladder, "0.5K"),
             repr(ladder), len(ladder)])

    def test_ranges(self):
        ladder = sample_ladder()
        self.assertEqual(
            [(1000, 1049), (1050, 1149), (999950, 1049999), None, (50, 49), (1050, 1149), (0, 0)],
            [range_of(ladder, "1.0K"), range_of(ladder, "1.1K"), range_of(ladder, "1.0M"),
             range_of(ladder, "1000.0K"), hidden(ladder, 1100), widest(ladder, 999949), widest(ladder, 5)])
        self.assertEqual(
            ["1.0M", "999", None, 1011, "1.0K", 1001],
            [next_figure(ladder, "999.9K"), previous_figure(ladder, "1.0K"), previous_figure(ladder, "0"),
             forms(ladder, 0, 2000), figure_at(ladder, 1000), place_of(ladder, "1.1K")])

    def test_alike(self):
        self.assertEqual(
            [1050, 999950, 999950, True],
            [first_unlike(sample_ladder(), Ladder(UNITS, 1, "even")),
             first_unlike(sample_ladder(), Ladder(UNITS, 1, "near", carry=False)),
             first_unlike(sample_ladder(), Ladder(UNITS[:2], 1, "near")),
             are_alike(sample_ladder(), Ladder(UNITS, 1, "near"))])
        self.assertEqual(
            [True, 999950, 999901],
            [is_steady(sample_ladder()), first_drift(Ladder(UNITS, 1, "near", carry=False)),
             first_drift(Ladder(UNITS, 1, "up", carry=False))])

    def test_tells(self):
        plain = Ladder(UNITS, 0, "near")
        self.assertEqual(
            [(1499, 1500), True, ("1K", "2K"), ("1.5K", "2.5K")],
            [first_untold(sample_ladder(), plain), tells(Ladder(UNITS, 1, "down"), Ladder(UNITS, 0, "down")),
             figures_in(sample_ladder(), "1.5K", plain), figures_in(plain, "2K", sample_ladder())])

    def test_sights(self):
        sights = ((sample_ladder(), "1.5K"), (Ladder(UNITS, 0, "near"), "1K"), (Ladder(UNITS, 0, "up"), "2K"))
        self.assertEqual(
            [(1450, 1499), (0, 1), 1500, None],
            [numbers_of(sights), needed(sights),
             only_number(((Ladder(UNITS, 1, "up"), "1.5K"), (Ladder(UNITS, 1, "down"), "1.5K"))),
             numbers_of(((sample_ladder(), "1.5K"), (sample_ladder(), "1.6K")))])

    def test_changes(self):
        ladder = sample_ladder()
        self.assertEqual(
            [(1, 149), "more", "open", "equal", None],
            [difference(ladder, "1.0K", "1.1K"), compared(ladder, "1.0K", "1.1K"), compared(ladder, "1.1K", "1.1K"),
             compared(ladder, "7", "7"), difference(ladder, "0.5K", "7")])
        self.assertEqual(
            [None, ((1000, 1049), (1050, 1149), (1050, 1149)), (1050, 1050), True, False, None, 2],
            [rising(ladder, ("1020", "1.0K")), rising(ladder, ("1.0K", "1.1K", "1.1K")),
             least_rising(ladder, ("1.1K", "1.1K")), always_rise(ladder, ("5", "1.0K")),
             always_rise(ladder, ("1.0K", "1.0K")), rising(ladder, ("1.1K", "1.0K")),
             first_fall(ladder, ("5", "1.1K", "1.0K"))])

    def test_columns(self):
        ladder, rows = sample_ladder(), ("1.0K", "1.0K")
        self.assertEqual(
            [(2000, 2098), ("2.0K", "2.1K", 2), None, "1.0K", (((1001, 1049), (1001, 1049)), (2050, 2098)), None,
             ("252", "449")],
            [sum_range(ladder, rows), totals(ladder, rows), sure_total(ladder, rows), sure_total(ladder, ("1.0K",)),
             column(ladder, rows, "2.1K"), column(ladder, rows, "2.2K"), rows_for(ladder, rows, "2.4K")])

    def test_families(self):
        self.assertEqual(
            [((1, "even", True),), ((1, "even", False), (1, "even", True)), 1050, None],
            [fitting(UNITS, ((1050, "1.0K"), (999999, "1.0M"))), fitting(UNITS, ((1050, "1.0K"), (1099, "1.1K"))),
             parting(UNITS, ((1, "near", True), (1, "even", True))), parting(UNITS, ((1, "near", True),))])

    def test_books(self):
        book = Book(sample_ladder())
        self.assertEqual(
            [0, 1, (2000, 2098), None, ((1001, 1049), (1001, 1049)), None, (2050, 2149), None, None, ("1.0K", "1.0K"),
             2,
             "Book(2 rows)"],
            [book.add("1.0K"), book.add("1.0K"), book.sum, book.expect("2.1K"), book.ranges, book.change(0, "1.1K"),
             book.sum, book.undo(), book.undo(), book.texts, attempt(book, len), repr(book)])

    def test_certificates(self):
        claim, paper = certify_tells(sample_ladder(), Ladder(sample_ladder().units, 0, "near"))
        self.assertEqual(
            ["hides", (1499, 1500), True, True, False, "steady", "impossible"],
            [claim[0], paper, holds(claim, paper), holds(claim, (1450, 1549)), holds(claim, (1500, 1501)),
             certify_steady(sample_ladder())[0][0],
             certify_column(sample_ladder(), ("1.0K", "1.0K"), "2.2K")[0][0]])

    def test_reports(self):
        book = Book(sample_ladder())
        self.assertEqual(
            [["998: 998-998", "999: 999-999", "1.0K: 1000-1049", "1.1K: 1050-1149"], 0,
             ["1.5K: 1450-1549", "-: 1450-1549"]],
            [range_table(sample_ladder(), 998, 1060).split("\n"), book.add("1.5K"), book_report(book).split("\n")])

    def test_console(self):
        console = Console(sample_ladder())
        self.assertEqual(
            ["1000-1049", "2000-2098", "refused", "2050-2098", "1001-1049", "2000-2098", "1.0K 1.0K", "1.0M"],
            [console.say("add 1.0K"), console.say("add 1.0K"), console.say("expect 2.2K"), console.say("expect 2.1K"),
             console.say("range 0"), console.say("undo"), console.say("rows"), console.say("show 999950")])

    def test_readme(self):
        readme = pathlib.Path(__file__).resolve().parent.parent / "README.md"
        failed, tried = doctest.testfile(str(readme), module_relative=False)
        self.assertEqual(0, failed)
        self.assertGreater(tried, 0)


if __name__ == "__main__":
    unittest.main()
