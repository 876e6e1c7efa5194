"""Blocks after which a book is again as it was before."""

import random
import unittest

from shortfigures.books import Book, attempt, within
from shortfigures.errors import Busy, Impossible, NotABook, NothingToUndo
from shortfigures.samples import sample_ladder
from tests.test_books import BookCase, all_of, filled
from tests.twins import CHOSEN, Twins, some_deed
from tests.values import odd_values

ADD = ("add", "1.0K")


class Told(Exception):
    """An error of a block."""


class Stop(BaseException):
    """An error of a block that is none of the usual ones."""


class TrialTest(BookCase):

    def test_a_block_gets_the_book(self):
        book = Book(sample_ladder())
        with book.trial() as held:
            self.assertIs(book, held)

    def test_all_that_is_done_is_taken_back(self):
        book = filled("1.0K", "1.0K", total="2.1K")
        before = all_of(book)
        with book.trial():
            book.add("5")
            book.change(0, "1.0K")
            book.expect(None)
            book.remove(1)
            self.assertEqual([("1.0K", "5"), None], [book.texts, book.total])
        self.assertEqual(before, all_of(book))
        self.assertEqual(self.undone(filled("1.0K", "1.0K", total="2.1K")), self.undone(book))

    def test_what_was_undone_is_there_again(self):
        book = filled("1.0K", "5", total="1.0K")
        with book.trial():
            for _ in range(3):
                book.undo()
            self.assertRaises(NothingToUndo, book.undo)
            book.add("7")
            self.assertEqual(("7",), book.texts)
        self.assertEqual(self.undone(filled("1.0K", "5", total="1.0K")), self.undone(book))

    def test_a_block_that_does_nothing(self):
        book = filled("5")
        with book.trial():
            pass
        self.assertEqual(self.undone(filled("5")), self.undone(book))

    def test_a_block_that_is_left_by_an_error(self):
        for error in (Told("no"), Stop(), Busy(), Impossible(), KeyboardInterrupt(), GeneratorExit(), StopIteration()):
            book = filled("5")
            with self.assertRaises(error.__class__) as caught:
                with book.trial():
                    book.add("7")
                    raise error
            self.assertIs(error, caught.exception)
            self.assertEqual(self.undone(filled("5")), self.undone(book))

    def test_a_block_that_is_left_otherwise(self):
        book = filled("5")

        def leave():
            for _ in range(3):
                with book.trial():
                    book.add("7")
                    break
            with book.trial():
                book.add("8")
                return len(book)

        self.assertEqual(2, leave())
        self.assertEqual(self.undone(filled("5")), self.undone(book))

    def test_used_for_several_blocks(self):
        book = filled("5")
        trial = book.trial()
        book.add("6")
        for text in ("7", "8"):
            with trial as held:
                self.assertIs(book, held)
                book.add(text)
                self.assertEqual(("5", "6", text), book.texts)
            self.assertEqual(("5", "6"), book.texts)
        # Not what the book was like when the trial was made counts, but when the block began.
        book.add("9")
        with trial:
            book.remove(0)
        self.assertEqual(("5", "6", "9"), book.texts)
        self.assertEqual(self.undone(filled("5", "6", "9")), self.undone(book))

    def test_used_for_one_block_within_another(self):
        for same in (False, True):
            book = filled("5")
            outer = book.trial()
            inner = outer if same else book.trial()
            with outer:
                book.add("6")
                with inner:
                    book.add("7")
                    with outer:
                        book.remove(0)
                        self.assertEqual(("6", "7"), book.texts)
                    self.assertEqual(("5", "6", "7"), book.texts)
                    book.undo()
                    book.undo()
                    self.assertEqual(("5",), book.texts)
                self.assertEqual(("5", "6"), book.texts)
                with inner:
                    book.expect("11")
                self.assertIsNone(book.total)
                book.undo()
                self.assertEqual(("5",), book.texts)
            self.assertEqual(self.undone(filled("5")), self.undone(book))

    def test_an_error_through_several_blocks(self):
        book = filled("5")
        trial = book.trial()
        with trial:
            book.add("6")
            with self.assertRaises(Told):
                with trial:
                    book.add("7")
                    with trial:
                        book.add("8")
                        raise Told()
            self.assertEqual(("5", "6"), book.texts)
        self.assertEqual(self.undone(filled("5")), self.undone(book))

    def test_do_all_in_a_block(self):
        book = filled("5")
        with book.trial():
            book.do_all(ADD, ("remove", 0))
            self.assertEqual(("1.0K",), book.texts)
            self.assertRaises(Impossible, book.do_all, ("add", "1"), ("expect", "0"))
            self.assertEqual(("1.0K",), book.texts)
            book.undo()
            self.assertEqual(("5", "1.0K"), book.texts)
        self.assertEqual(self.undone(filled("5")), self.undone(book))

    def test_two_books(self):
        one, two = filled("5"), filled("6")
        with one.trial(), two.trial():
            one.add("7")
            two.add("8")
            with one.trial():
                one.add("9")
                two.add("9")
            self.assertEqual([("5", "7"), ("6", "8", "9")], [one.texts, two.texts])
        self.assertEqual([("5",), ("6",)], [one.texts, two.texts])
        with one.trial():
            two.add("8")
        self.assertEqual(("6", "8"), two.texts)

    def test_made_before_do_all_and_used_in_its_watch(self):
        book = filled("5")
        trial, seen = book.trial(), []

        def watch(held, place):
            before = all_of(book)
            with trial as one:
                self.assertIs(book, one)
                with trial:
                    self.assertRaises(Busy, book.add, "7")
                    self.assertRaises(Busy, book.undo)
                    self.assertIs(True, book.busy)
                self.assertEqual(before, all_of(book))
            self.assertEqual(before, all_of(book))
            seen.append((place, within(trial, len), within(trial, lambda book: book.texts)))
            self.assertRaises(Told, within, trial, self.fail_with_told)
            self.assertIs(True, book.busy)
            self.assertEqual(before, all_of(book))

        book.do_all(ADD, ("change", 0, "6"), watch=watch)
        self.assertEqual([(0, 2, ("5", "1.0K")), (1, 2, ("6", "1.0K"))], seen)
        self.assertEqual(("6", "1.0K"), book.texts)
        for texts in (("5", "1.0K"), ("5",), ()):
            book.undo()
            self.assertEqual(texts, book.texts)

    def fail_with_told(self, book):
        raise Told()

    def test_the_same_trial_around_do_all_and_in_its_watch(self):
        book = filled("5")
        trial = book.trial()
        with trial:
            book.add("6")
            book.do_all(ADD, ADD, watch=lambda book, place: within(trial, len))
            self.assertEqual(("5", "6", "1.0K", "1.0K"), book.texts)
            self.assertRaises(Told, book.do_all, ADD, watch=lambda book, place: within(trial, self.fail_with_told))
            self.assertEqual(("5", "6", "1.0K", "1.0K"), book.texts)
            book.undo()
            self.assertEqual(("5", "6", "1.0K"), book.texts)
        self.assertEqual(self.undone(filled("5")), self.undone(book))

    def test_busy_when_it_is_called(self):
        book, seen = Book(sample_ladder()), []

        def watch(book, place):
            self.assertRaises(Busy, book.trial)
            seen.append(place)

        book.do_all(ADD, watch=watch)
        self.assertEqual([0], seen)
        self.assertIsNotNone(book.trial())

    def test_a_trial_does_not_change_the_book_by_itself(self):
        book = filled("5")
        trial = book.trial()
        book.add("6")
        self.assertEqual(("5", "6"), book.texts)
        del trial
        self.assertEqual(self.undone(filled("5", "6")), self.undone(book))

    def test_many_blocks_within_one_another(self):
        book = Book(sample_ladder())
        trial = book.trial()

        def go_in(levels):
            if levels:
                with trial:
                    book.add("1")
                    go_in(levels - 1)
                    self.assertEqual(13 - levels, len(book))

        go_in(12)
        self.assertEqual(0, len(book))


class WithinTest(BookCase):

    def test_the_result(self):
        book = filled("5")
        trial = book.trial()
        for result in (None, 0, "text", (1, 2), book, Told):
            self.assertIs(result, within(trial, lambda book: result))
            self.assertIs(result, attempt(book, lambda book: result))
        self.assertIs(book, within(trial, lambda book: book))
        self.assertEqual([1, 1], [within(trial, len), attempt(book, len)])

    def test_all_that_is_done_is_taken_back(self):
        def act(book):
            book.add("7")
            book.undo()
            book.undo()
            book.add("8")
            return book.texts

        book = filled("5")
        self.assertEqual(("8",), within(book.trial(), act))
        self.assertEqual(("8",), attempt(book, act))
        self.assertEqual(self.undone(filled("5")), self.undone(book))

    def test_errors_are_not_held_back(self):
        for error in (Told(), Stop(), Impossible(), StopIteration()):
            def act(book):
                book.add("7")
                raise error

            book = filled("5")
            for call in (lambda: within(book.trial(), act), lambda: attempt(book, act)):
                with self.assertRaises(error.__class__) as caught:
                    call()
                self.assertIs(error, caught.exception)
                self.assertEqual(("5",), book.texts)
            self.assertEqual(self.undone(filled("5")), self.undone(book))

    def test_within_one_another(self):
        def act(book):
            book.add("7")
            told = attempt(book, lambda book: (book.add("8"), book.texts))
            return told, within(trial, lambda book: (book.add("9"), book.texts)), book.texts

        book = filled("5")
        trial = book.trial()
        expected = ((2, ("5", "7", "8")), (2, ("5", "7", "9")), ("5", "7"))
        self.assertEqual([expected, expected], [within(trial, act), attempt(book, act)])
        self.assertEqual(self.undone(filled("5")), self.undone(book))

    def test_do_all_with_a_watch(self):
        book, seen = filled("5"), []
        self.assertIsNone(attempt(book, lambda book: book.do_all(
            ADD, watch=lambda book, place: seen.append(len(book)))))
        self.assertEqual([[2], ("5",)], [seen, book.texts])

    def test_by_keyword(self):
        book = filled("5")
        self.assertEqual(1, within(act=len, trial=book.trial()))
        self.assertEqual(1, attempt(act=len, book=book))

    def test_no_book(self):
        for value in [sample_ladder(), "book", 5, True, Book, filled("5").texts] + odd_values():
            with self.subTest(value=value):
                self.assert_value(NotABook, value, attempt, value, len)
                self.assert_value(NotABook, value, attempt, act=lambda book: self.fail("called"), book=value)

    def test_busy(self):
        book, seen = filled("5"), []

        def watch(book, place):
            with self.assertRaises(Busy) as caught:
                attempt(book, lambda book: self.fail("called"))
            seen.append(caught.exception.__class__)

        book.do_all(ADD, watch=watch)
        self.assertEqual([Busy], seen)


class BesideAListTest(BookCase):

    def test_some_hundred_blocks(self):
        chance = random.Random(45)
        self.many = {"blocks": 0, "errors": 0, "again": 0}
        for rule in CHOSEN:
            twins = Twins(self, rule)
            trials = [twins.book.trial() for _ in range(2)]
            for _ in range(4):
                self.go_on(chance, twins, trials, 0)
            twins.undo_all()
        for name, least in (("blocks", 300), ("errors", 50), ("again", 100)):
            self.assertGreater(self.many[name], least, name)

    def go_on(self, chance, twins, trials, level):
        """Do some deeds, and begin some blocks, on this level."""
        for _ in range(chance.randrange(2, 7)):
            kind = chance.randrange(10)
            if kind < 5:
                twins.do(some_deed(chance, twins))
            elif kind < 7:
                twins.undo()
            elif kind == 7:
                twins.do_all([("add", "0" + twins.rule[0][0][0]), some_deed(chance, twins)],
                             lambda book, place: within(trials[0], lambda book: twins.check()))
            elif level < 4:
                self.block(chance, twins, trials, level)

    def block(self, chance, twins, trials, level):
        before, leave = twins.state(), chance.random() < 0.3
        trial = chance.choice(trials + [twins.book.trial()])
        self.many["blocks"] += 1
        self.many["again"] += trial in trials and level > 0
        try:
            with trial as book:
                self.assertIs(twins.book, book)
                self.go_on(chance, twins, trials, level + 1)
                if leave:
                    self.many["errors"] += 1
                    raise Told()
        except Told:
            self.assertTrue(leave)
        twins.go_to(before)
        twins.check()


if __name__ == "__main__":
    unittest.main()
