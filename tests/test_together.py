"""The files of the program against one another, on small ladders and on large ones."""

import random
import time
import unittest

from shortfigures.alike import are_alike, first_drift, first_unlike, is_steady
from shortfigures.books import Book, attempt
from shortfigures.certificates import certify_alike, certify_column, certify_steady, certify_tells
from shortfigures.changes import always_rise, compared, difference, first_fall, least_rising, rising
from shortfigures.checker import holds
from shortfigures.columns import column, numbers_for, rows_for, sum_range, sure_total, totals
from shortfigures.console import Console
from shortfigures.errors import Impossible
from shortfigures.families import fitting, parting
from shortfigures.ladders import Ladder, is_shown, show
from shortfigures.ranges import (
    figure_at, forms, hidden, next_figure, place_of, previous_figure, range_of, widest)
from shortfigures.reports import book_report, range_table
from shortfigures.sights import needed, numbers_of, only_number
from shortfigures.tells import figures_in, first_untold, tells
from tests.oracle import LARGE, LONG, SMALL, rules, shown, telling_numbers, variants
from tests.test_columns import FINE
from tests.test_show import made
from tests.test_trials import BookCase
from tests.twins import CHOSEN, Twins, some_deed

TALL = (("", 1), ("E", 10 ** 18))


def line(text, ends):
    return f"{text}: {ends[0]}-{ends[1]}"


class TogetherTest(BookCase):

    def some_columns(self, chance):
        """Return ladders with rows and totals, small ones and large ones."""
        found = []
        for rule in chance.sample(rules(SMALL, (1, 3)), 60) + rules(LARGE, (1, 1000))[::6]:
            for _ in range(3):
                most = chance.choice((30, 300, 10 ** 5, 10 ** 18))
                numbers = [chance.randrange(most) for _ in range(chance.randrange(13))]
                total = max(0, sum(numbers) + chance.choice((0, 0, 0, 1, 40, most, -most)))
                found.append((made(rule), tuple(shown(rule, number) for number in numbers), shown(rule, total)))
        return found

    def test_columns_books_certificates_reports_and_consoles(self):
        chance = random.Random(81)
        many = [0, 0]
        for ladder, rows, total in self.some_columns(chance):
            told = column(ladder, rows, total)
            book, console = Book(ladder), Console(ladder)
            for text in rows:
                book.add(text)
                console.say(f"add {text}")
            self.assertEqual(sum_range(ladder, rows), book.sum)
            self.assertEqual(tuple(range_of(ladder, text) for text in rows), book.ranges)
            claim, paper = certify_column(ladder, rows, total)
            self.assertEqual(numbers_for(ladder, rows, total) or (), paper)
            self.assertIs(True, holds(claim, paper))
            self.assertEqual("impossible" if told is None else "possible", claim[0])
            if told is None:
                self.assertRaises(Impossible, book.expect, total)
                self.assertEqual("refused", console.say(f"expect {total}"))
                told, total = (book.ranges, book.sum), None
            else:
                book.expect(total)
                self.assertEqual("{}-{}".format(*told[1]), console.say(f"expect {total}"))
            self.assertEqual(told, (book.ranges, book.sum))
            lines = [line(text, ends) for text, ends in zip(rows, told[0])] + [line(total or "-", told[1])]
            self.assertEqual("\n".join(lines), book_report(book))
            self.assertEqual(" ".join(rows) or "none", console.say("rows"))
            for place, ends in enumerate(told[0]):
                self.assertEqual("{}-{}".format(*ends), console.say(f"range {place}"))
            many[total is None] += 1
        self.assertGreater(min(many), 40)

    def test_one_more_row_in_a_book(self):
        chance = random.Random(82)
        many = [0, 0]
        for ladder, rows, total in self.some_columns(chance):
            rows, found = rows[:11], rows_for(ladder, rows[:11], total)
            book = Book(ladder)
            book.do_all(*[("add", text) for text in rows])
            many[found is None] += 1
            if found is None:
                self.assertIsNone(column(ladder, rows + ("0" + ladder.units[0][0],), total))
                continue
            first, last = found
            middle = (range_of(ladder, first)[0] + range_of(ladder, last)[1]) // 2
            for text in (first, last, shown(ladder.told, middle)):
                attempt(book, lambda book: book.do_all(("add", text), ("expect", total)))
            before, behind = previous_figure(ladder, first), next_figure(ladder, last)
            for text in [behind] if before is None else [before, behind]:
                self.assertRaises(Impossible, book.do_all, ("add", text), ("expect", total))
        self.assertGreater(min(many), 10)

    def test_totals_of_books(self):
        chance = random.Random(83)
        for ladder, rows, _ in self.some_columns(chance):
            first, last, many = totals(ladder, rows)
            book = Book(ladder)
            book.do_all(*[("add", text) for text in rows])
            self.assertEqual(many == 1, sure_total(ladder, rows) is not None)
            for text in (first, last):
                self.assertIsNone(attempt(book, lambda book: book.expect(text)))
            before, behind = previous_figure(ladder, first), next_figure(ladder, last)
            for text in [behind] if before is None else [before, behind]:
                self.assertRaises(Impossible, book.expect, text)
            self.assertEqual(many - 1, place_of(ladder, last) - place_of(ladder, first))

    def test_ladders_and_certificates(self):
        chance = random.Random(84)
        for rule in chance.sample(rules(SMALL + LARGE, (1, 10)), 80):
            ladder = made(rule)
            for other in [made(other) for other in chance.sample(variants(rule), 3)]:
                number, pair = first_unlike(ladder, other), first_untold(ladder, other)
                self.assertEqual([number is None, pair is None], [are_alike(ladder, other), tells(ladder, other)])
                for claim, paper in (certify_alike(ladder, other), certify_tells(ladder, other)):
                    self.assertIs(True, holds(claim, paper))
                if number is not None and number <= 10 ** 18:
                    self.assertNotEqual(show(ladder, number), show(other, number))
                if pair is not None and pair[1] <= 10 ** 18:
                    text = show(ladder, pair[0])
                    self.assertTrue(pair[1] <= range_of(ladder, text)[1])
                    self.assertEqual(2, len(set(figures_in(ladder, text, other))))
                if number is None:
                    self.assertIs(True, tells(ladder, other))
                    self.assertIs(True, tells(other, ladder))
            self.assertEqual(first_drift(ladder) is None, is_steady(ladder))
            self.assertIs(True, holds(*certify_steady(ladder)))

    def test_families_and_ladders(self):
        chance = random.Random(85)
        for units in (FINE, LONG, SMALL[2][0], SMALL[4][0]):
            triples = fitting(units, ())
            for one, two in [(chance.choice(triples), chance.choice(triples)) for _ in range(40)]:
                first, second = [Ladder(units, *triple[:2], carry=triple[2]) for triple in (one, two)]
                number = parting(units, (one, two))
                self.assertEqual(first_unlike(first, second), number)
                if number is not None and number <= 10 ** 18:
                    found = fitting(units, ((number, show(first, number)),))
                    self.assertEqual([True, False], [one in found, two in found])

    def test_tables_and_ranges(self):
        chance = random.Random(86)
        for rule in chance.sample(rules(SMALL + LARGE, (1, 10)), 60):
            ladder = made(rule)
            low = chance.choice([number for number in telling_numbers(rule) if number < 10 ** 18 - 200])
            high = low + chance.randrange(150)
            lines = range_table(ladder, low, high).split("\n")
            self.assertEqual(forms(ladder, low, high), len(lines))
            text = show(ladder, low)
            for one in lines:
                self.assertEqual(line(text, range_of(ladder, text)), one)
                text = next_figure(ladder, text)

    def test_changes_and_ranges(self):
        chance = random.Random(87)
        for ladder, rows, _ in self.some_columns(chance):
            ranges = [range_of(ladder, text) for text in rows]
            ordered = tuple(sorted(rows, key=lambda text: range_of(ladder, text)))
            self.assertEqual(tuple(sorted(ranges)), rising(ladder, ordered))
            self.assertEqual(tuple(low for low, _ in sorted(ranges)), least_rising(ladder, ordered))
            self.assertEqual(-1, first_fall(ladder, ordered))
            for one, two in zip(rows, rows[1:]):
                low, high = difference(ladder, one, two)
                self.assertEqual(compared(ladder, one, two) == "less", first_fall(ladder, (one, two)) == 1)
                self.assertEqual(low >= 0, always_rise(ladder, (one, two)))
                self.assertEqual(high >= 0, rising(ladder, (one, two)) is not None)

    def test_books_and_what_was_before(self):
        chance = random.Random(88)
        for rule in CHOSEN[::4]:
            twins = Twins(self, rule)
            for _ in range(30):
                twins.do(some_deed(chance, twins))
                book = twins.book
                if book.total is not None:
                    self.assertEqual((book.ranges, book.sum), column(book.ladder, book.texts, book.total))
                    claim, paper = certify_column(book.ladder, book.texts, book.total)
                    self.assertEqual(["possible", True], [claim[0], holds(claim, paper)])
                    self.assertIs(False, holds(("impossible",) + claim[1:], ()))
                    for number, (low, high) in zip(paper, book.ranges):
                        self.assertTrue(low <= number <= high)
                else:
                    self.assertEqual(sum_range(book.ladder, book.texts), book.sum)


class TimeTest(unittest.TestCase):

    def test_no_answer_takes_long(self):
        """Twelve rows, six units up to 10 ** 18, three decimals, ladders that differ late or never."""
        ladders = [Ladder(FINE, 3, rounding, carry=carry, least=least) for rounding in ("down", "even")
                   for carry in (False, True) for least in (1, 1000)]
        ladders += [Ladder(TALL, 0, "near", least=1000), Ladder(TALL, 0, "near", least=999), Ladder(TALL, 3, "up")]
        begin = time.perf_counter()
        for ladder in ladders:
            for other in ladders:
                first_unlike(ladder, other)
                first_untold(ladder, other)
                self.assertIs(True, holds(*certify_alike(ladder, other)))
                self.assertIs(True, holds(*certify_tells(ladder, other)))
            first_drift(ladder)
            texts = tuple(shown(ladder.told, 10 ** 17 + 10 ** (6 + number) + number) for number in range(12))
            first, last, _ = totals(ladder, texts)
            for total in (first, last):
                column(ladder, texts, total)
                rows_for(ladder, texts, total)
                self.assertIs(True, holds(*certify_column(ladder, texts, total)))
            rising(ladder, texts)
            for text in texts:
                self.assertTrue(is_shown(ladder, text))
                place_of(ladder, text)
            widest(ladder, 10 ** 18)
            hidden(ladder, 10 ** 18)
            forms(ladder, 0, 10 ** 18)
            figure_at(ladder, 10 ** 9)
            sights = tuple((other, shown(other.told, 10 ** 18)) for other in ladders[:4])
            numbers_of(sights)
            needed(sights)
            only_number(sights)
        self.assertLess(time.perf_counter() - begin, 20)


if __name__ == "__main__":
    unittest.main()
