"""Books, beside a simple list of rows and a total."""

import random
import time
import unittest

from shortfigures import books
from shortfigures.books import Book
from shortfigures.errors import (
    Impossible, InvalidFigure, InvalidPlace, NeverShown, NotALadder, NothingToUndo, TooMany)
from shortfigures.ladders import Ladder
from shortfigures.samples import sample_ladder
from tests.oracle import ROUNDINGS, THOUSANDS, shown, telling_numbers
from tests.test_columns import FINE
from tests.test_show import made
from tests.twins import CHOSEN, Twins, some_deed
from tests.values import NO_FIGURES, NO_LADDERS, UNSHOWN, ErrorCase, nested, odd_values

NO_PLACES = [-1, -2, 10 ** 18, -10 ** 21, True, False, "0", "", [0], (0,), sample_ladder()] + odd_values()


def filled(*texts, total=None, ladder=None):
    """Return a book with some rows and a total."""
    book = Book(ladder or sample_ladder())
    for text in texts:
        book.add(text)
    if total is not None:
        book.expect(total)
    return book


def all_of(book):
    """Return everything that can be asked of a book, apart from what can be undone."""
    return (book.ladder, book.texts, book.total, book.ranges, book.sum, book.busy, len(book), repr(book), bool(book))


class BookCase(ErrorCase):
    """A test that also sees whether anything changes when there is an error."""

    def undone(self, book):
        """Take back all deeds of a book, and return what it was like on the way."""
        found = [all_of(book)]
        while True:
            try:
                book.undo()
            except NothingToUndo:
                return found
            found.append(all_of(book))

    def assert_error(self, kind, value, make, act):
        """Check that a call of `act` has just this error, and changes nothing in the book that `make()` gives."""
        book, other = make(), make()
        with self.assertRaises(kind) as caught:
            act(book)
        self.assertIs(kind, caught.exception.__class__)
        if kind is TooMany:
            self.assertEqual(value, caught.exception.limit)
        elif kind not in (Impossible, NothingToUndo):
            self.assertIs(value, caught.exception.value)
        self.assertEqual(self.undone(other), self.undone(book))


class OrdinaryBooksTest(BookCase):

    def test_a_new_book(self):
        ladder = sample_ladder()
        book = Book(ladder)
        self.assertIs(ladder, book.ladder)
        self.assertEqual([(), None, (), (0, 0), False, 0, "Book(0 rows)", False],
                         [book.texts, book.total, book.ranges, book.sum, book.busy, len(book), repr(book), bool(book)])
        self.assertIs(False, book.busy)
        self.assertRaises(NothingToUndo, book.undo)

    def test_adding_rows(self):
        book = Book(sample_ladder())
        self.assertEqual([0, 1, 2], [book.add(text) for text in ("1.0K", "7", "1.1K")])
        self.assertEqual([("1.0K", "7", "1.1K"), ((1000, 1049), (7, 7), (1050, 1149)), (2057, 2205), None],
                         [book.texts, book.ranges, book.sum, book.total])
        self.assertEqual([3, "Book(3 rows)", True], [len(book), repr(book), bool(book)])

    def test_a_total_narrows_the_rows(self):
        book = filled("1.0K", "1.0K")
        self.assertIsNone(book.expect("2.1K"))
        self.assertEqual(["2.1K", ((1001, 1049), (1001, 1049)), (2050, 2098)], [book.total, book.ranges, book.sum])
        self.assertIsNone(book.expect("2.0K"))
        self.assertEqual(["2.0K", ((1000, 1049), (1000, 1049)), (2000, 2049)], [book.total, book.ranges, book.sum])
        self.assertIsNone(book.expect(None))
        self.assertEqual([None, ((1000, 1049), (1000, 1049)), (2000, 2098)], [book.total, book.ranges, book.sum])

    def test_changing_rows(self):
        book = filled("1.0K", "7", "8")
        self.assertIsNone(book.change(0, "1.1K"))
        self.assertEqual(("1.1K", "7", "8"), book.texts)
        self.assertIsNone(book.change(2, "9"))
        self.assertEqual(("1.1K", "7", "9"), book.texts)
        self.assertIsNone(book.change(1, "1.0M"))
        self.assertEqual([("1.1K", "1.0M", "9"), ((1050, 1149), (999950, 1049999), (9, 9))], [book.texts, book.ranges])

    def test_removing_rows(self):
        book = filled("1", "2", "3", "4")
        self.assertIsNone(book.remove(1))
        self.assertEqual([("1", "3", "4"), (8, 8)], [book.texts, book.sum])
        self.assertIsNone(book.remove(0))
        self.assertEqual(("3", "4"), book.texts)
        self.assertIsNone(book.remove(1))
        self.assertEqual([("3",), ((3, 3),), (3, 3)], [book.texts, book.ranges, book.sum])
        self.assertIsNone(book.remove(0))
        self.assertEqual([(), (), (0, 0), 0], [book.texts, book.ranges, book.sum, len(book)])
        self.assertEqual(0, book.add("5"))

    def test_the_total_without_rows(self):
        book = Book(sample_ladder())
        for total in ("1", "999", "1.0K", "1.0M"):
            self.assertRaises(Impossible, book.expect, total)
        book.expect("0")
        self.assertEqual([(), "0", (), (0, 0)], [book.texts, book.total, book.ranges, book.sum])
        self.assertRaises(Impossible, book.add, "1")
        self.assertEqual(0, book.add("0"))
        self.assertEqual([("0",), "0", ((0, 0),), (0, 0)], [book.texts, book.total, book.ranges, book.sum])

    def test_a_total_that_just_fits(self):
        book = filled("1.0K", "1.0K", "49", total="2.0K")
        self.assertEqual([((1000, 1000), (1000, 1000), (49, 49)), (2049, 2049)], [book.ranges, book.sum])
        self.assertRaises(Impossible, book.change, 2, "50")
        self.assertRaises(Impossible, book.add, "1")
        self.assertEqual(3, book.add("0"))
        book.remove(2)
        self.assertEqual(("1.0K", "1.0K", "0"), book.texts)

    def test_undoing(self):
        book = filled("1.0K", "1.0K", total="2.1K")
        book.change(0, "1.1K")
        book.expect(None)
        book.remove(1)
        self.assertEqual(("1.1K",), book.texts)
        for texts, total in ((("1.1K", "1.0K"), None), (("1.1K", "1.0K"), "2.1K"), (("1.0K", "1.0K"), "2.1K"),
                             (("1.0K", "1.0K"), None), (("1.0K",), None), ((), None)):
            self.assertIsNone(book.undo())
            self.assertEqual([texts, total, len(texts)], [book.texts, book.total, len(book)])
        self.assertRaises(NothingToUndo, book.undo)
        self.assertRaises(NothingToUndo, book.undo)
        self.assertEqual([0, (1050, 1149)], [book.add("1.1K"), book.sum])

    def test_a_deed_that_changes_nothing_can_be_undone(self):
        book = filled("7")
        book.change(0, "7")
        book.expect(None)
        book.expect("7")
        book.expect("7")
        for total in ("7", None, None, None):
            book.undo()
            self.assertEqual([("7",), total], [book.texts, book.total])
        book.undo()
        self.assertEqual((), book.texts)
        self.assertRaises(NothingToUndo, book.undo)

    def test_undoing_is_no_deed(self):
        book = filled("1", "2")
        book.undo()
        book.add("3")
        self.assertEqual(("1", "3"), book.texts)
        book.undo()
        self.assertEqual(("1",), book.texts)
        book.undo()
        self.assertRaises(NothingToUndo, book.undo)

    def test_twelve_rows_and_one_more(self):
        for total in (None, "12.0K"):
            book = filled(*["1.0K"] * 12, total=total)
            before = all_of(book)
            with self.assertRaises(TooMany) as caught:
                book.add("1.0K")
            self.assertEqual(12, caught.exception.limit)
            self.assertEqual(before, all_of(book))
            self.assertEqual("Book(12 rows)", repr(book))
            book.change(11, "1.0K")
            book.expect(None)
            book.remove(0)
            self.assertEqual(11, book.add("5"))

    def test_what_was_told_before_stays(self):
        book = filled("1.0K", "1.0K")
        texts, ranges, sums = book.texts, book.ranges, book.sum
        book.expect("2.1K")
        book.add("0")
        self.assertEqual([("1.0K", "1.0K"), ((1000, 1049), (1000, 1049)), (2000, 2098)], [texts, ranges, sums])
        self.assertEqual([tuple] * 3, [kind.__class__ for kind in (texts, ranges, sums)])

    def test_many_deeds(self):
        book, begin = Book(sample_ladder()), time.perf_counter()
        book.add("0")
        for number in range(20000):
            book.change(0, str(number % 1000))
        self.assertEqual(("999",), book.texts)
        for number in range(19998, -1, -1):
            book.undo()
            if number % 500 == 0:
                self.assertEqual((str(number % 1000),), book.texts)
        book.undo()
        book.undo()
        self.assertRaises(NothingToUndo, book.undo)
        self.assertLess(time.perf_counter() - begin, 20)

    def test_large_rows(self):
        rule = (FINE, 3, "up", True, 1000)
        numbers = telling_numbers(rule)
        begin = time.perf_counter()
        for at in range(0, len(numbers) - 12, 60):
            chosen = numbers[at:at + 12]
            book = filled(*[shown(rule, number) for number in chosen], ladder=made(rule))
            book.expect(shown(rule, sum(chosen)))
            for number, (low, high) in zip(chosen, book.ranges):
                self.assertTrue(low <= number <= high)
            self.assertTrue(book.sum[0] <= sum(chosen) <= book.sum[1])
            self.assertEqual([book.total] * 2, [shown(rule, number) for number in book.sum])
        self.assertLess(time.perf_counter() - begin, 10)


class BesideAListTest(BookCase):

    def test_some_hundred_deeds(self):
        chance = random.Random(41)
        errors, most, totals = {}, 0, 0
        for rule in CHOSEN:
            twins = Twins(self, rule)
            for _ in range(60):
                if chance.random() < 0.15:
                    twins.undo()
                else:
                    twins.do(some_deed(chance, twins))
                most = max(most, len(twins.rows))
                totals += twins.total is not None
            twins.undo_all()
            for kind, many in twins.errors.items():
                errors[kind] = errors.get(kind, 0) + many
        for kind in (InvalidFigure, NeverShown, InvalidPlace, Impossible, NothingToUndo):
            self.assertGreater(errors.get(kind, 0), 20, kind)
        self.assertGreater(most, 8)
        self.assertGreater(totals, 200)

    def test_full_books(self):
        chance = random.Random(42)
        errors = {}
        for rule in CHOSEN[::3]:
            twins = Twins(self, rule)
            while len(twins.rows) < 12:
                twins.do(("add", chance.choice(("0", "1")) + rule[0][0][0]))
            for _ in range(30):
                twins.do(some_deed(chance, twins))
            twins.undo_all()
            for kind, many in twins.errors.items():
                errors[kind] = errors.get(kind, 0) + many
        self.assertGreater(errors.get(TooMany, 0), 20)

    def test_several_books_at_once(self):
        chance = random.Random(43)
        for rule in CHOSEN[::5]:
            several = [Twins(self, rule), Twins(self, rule), Twins(self, chance.choice(CHOSEN))]
            for _ in range(60):
                twins = chance.choice(several)
                twins.do(some_deed(chance, twins))
                if chance.random() < 0.2:
                    chance.choice(several).undo()
                for other in several:
                    other.check()
            for twins in several:
                twins.undo_all()


class BookAsAValueTest(BookCase):

    def test_equal_to_itself_and_to_nothing_else(self):
        book, other = filled("1.0K"), filled("1.0K")
        self.assertIs(True, book == book)
        self.assertIs(False, book != book)
        for thing in [other, Book(sample_ladder()), sample_ladder(), ("1.0K",), 1, True, "Book(1 rows)", Book,
                      *odd_values()]:
            self.assertIs(False, book == thing)
            self.assertIs(True, book != thing)
            self.assertIs(False, thing == book)
            self.assertIs(True, thing != book)
        self.assertIn(book, [other, book])
        self.assertNotIn(book, [other, None])
        self.assertEqual(1, [other, book].index(book))

    def test_len_truth_and_repr(self):
        book = Book(sample_ladder())
        for many in range(13):
            self.assertEqual([many, many > 0, "Book(" + str(many) + " rows)", str(book)],
                             [len(book), bool(book), repr(book), repr(book)])
            if many < 12:
                book.add("0")

    def test_two_books_do_not_change_one_another(self):
        ladder = sample_ladder()
        one, two = Book(ladder), Book(ladder)
        one.add("1.0K")
        self.assertEqual([1, 0, ()], [len(one), len(two), two.texts])
        two.add("7")
        two.expect("7")
        self.assertEqual([("1.0K",), None], [one.texts, one.total])
        one.undo()
        self.assertRaises(NothingToUndo, one.undo)
        self.assertEqual([("7",), "7"], [two.texts, two.total])

    def test_defined_where_they_are_listed(self):
        for name in ("Book", "within", "attempt"):
            self.assertEqual("shortfigures.books", getattr(books, name).__module__)
        for name in ("__init__", "add", "change", "remove", "expect", "do_all", "undo", "trial", "__len__", "__repr__"):
            self.assertIn(name, Book.__dict__)

    def test_by_keyword(self):
        book = Book(ladder=sample_ladder())
        self.assertEqual(0, book.add(text="1.0K"))
        book.change(text="1.1K", place=0)
        book.expect(total="1.1K")
        self.assertEqual([("1.1K",), "1.1K"], [book.texts, book.total])
        book.expect(total=None)
        book.remove(place=0)
        self.assertEqual([(), None], [book.texts, book.total])


class ErrorsTest(BookCase):

    def make(self):
        book = filled("1.0K", "1.0K", "5", total="2.1K")
        book.change(2, "6")
        return book

    def full(self):
        return filled(*["1.0K"] * 12, total="12.0K")

    def test_no_ladder(self):
        for value in NO_LADDERS:
            self.assert_value(NotALadder, value, Book, value)
            self.assert_value(NotALadder, value, Book, ladder=value)

    def test_no_figure(self):
        for value in NO_FIGURES:
            with self.subTest(value=value):
                for make in (lambda: Book(sample_ladder()), self.make, self.full):
                    self.assert_error(InvalidFigure, value, make, lambda book: book.add(value))
                    self.assert_error(InvalidFigure, value, make, lambda book: book.add(text=value))
                    if value is not None:
                        self.assert_error(InvalidFigure, value, make, lambda book: book.expect(value))
                        self.assert_error(InvalidFigure, value, make, lambda book: book.expect(total=value))
                self.assert_error(InvalidFigure, value, self.make, lambda book: book.change(0, value))
                self.assert_error(InvalidFigure, value, self.make, lambda book: book.change(text=value, place=2))

    def test_figures_that_are_not_shown(self):
        for text in UNSHOWN:
            for make in (lambda: Book(sample_ladder()), self.make, self.full):
                self.assert_error(NeverShown, text, make, lambda book: book.add(text))
                self.assert_error(NeverShown, text, make, lambda book: book.expect(text))
            self.assert_error(NeverShown, text, self.make, lambda book: book.change(1, text))
        for rounding in ROUNDINGS:
            make = lambda: Book(Ladder(THOUSANDS, 0, rounding))
            self.assert_error(NeverShown, "1000K", make, lambda book: book.add("1000K"))

    def test_no_place(self):
        for value in NO_PLACES + [3, 4, 12]:
            with self.subTest(value=value):
                self.assert_error(InvalidPlace, value, self.make, lambda book: book.change(value, "1.0K"))
                self.assert_error(InvalidPlace, value, self.make, lambda book: book.remove(value))
                self.assert_error(InvalidPlace, value, self.make, lambda book: book.remove(place=value))
        for value in NO_PLACES + [0, 1, nested(15)]:
            empty = lambda: Book(sample_ladder())
            self.assert_error(InvalidPlace, value, empty, lambda book: book.change(value, "1.0K"))
            self.assert_error(InvalidPlace, value, empty, lambda book: book.remove(value))

    def test_what_is_impossible(self):
        for text in ("1.0K", "144", "1.0M", "9" * 23 + ".9M"):
            self.assert_error(Impossible, None, self.make, lambda book: book.add(text))
        for text in ("1.1K", "150", "1.0M"):
            self.assert_error(Impossible, None, lambda: filled("1.0K", "1.0K", "5", total="2.0K"),
                              lambda book: book.change(2, text))
        for place, text in ((0, "994"), (1, "1.2K"), (2, "150"), (0, "0")):
            self.assert_error(Impossible, None, self.make, lambda book: book.change(place, text))
        for place in (0, 1):
            self.assert_error(Impossible, None, self.make, lambda book: book.remove(place))
        for total in ("0", "1.9K", "2.2K", "1.0M", "9" * 23 + ".9M"):
            self.assert_error(Impossible, None, self.make, lambda book: book.expect(total))
        self.assert_error(Impossible, None, lambda: filled("5", total="5"), lambda book: book.remove(0))
        self.assert_error(Impossible, None, lambda: Book(sample_ladder()), lambda book: book.expect("1"))

    def test_nothing_to_undo(self):
        self.assert_error(NothingToUndo, None, lambda: Book(sample_ladder()), lambda book: book.undo())

    def test_the_order_of_the_errors(self):
        # A full book whose total leaves no room: the figure counts first, then the room, then the sum.
        for value, kind in (("no", InvalidFigure), (None, InvalidFigure), ("0.5K", NeverShown)):
            self.assert_error(kind, value, self.full, lambda book: book.add(value))
        self.assert_error(TooMany, 12, self.full, lambda book: book.add("1.0M"))
        self.assert_error(TooMany, 12, self.full, lambda book: book.add("0"))
        for text in ("no", None, "0.5K", "1.0M", "1.0K"):
            self.assert_error(InvalidPlace, True, self.full, lambda book: book.change(True, text))
        self.assert_error(InvalidFigure, "no", self.full, lambda book: book.change(0, "no"))
        self.assert_error(NeverShown, "0.5K", self.full, lambda book: book.change(11, "0.5K"))
        self.assert_error(Impossible, None, self.full, lambda book: book.change(11, "1.0M"))


if __name__ == "__main__":
    unittest.main()
