"""Several deeds at once, all or none of them."""

import random
import unittest

from shortfigures.books import Book, attempt
from shortfigures.errors import (
    Busy, Impossible, InvalidDeeds, InvalidFigure, InvalidPlace, NeverShown, NothingToUndo, TooMany)
from shortfigures.samples import sample_ladder
from tests.test_books import BookCase, all_of, filled
from tests.twins import CHOSEN, Twins, some_deed
from tests.values import NO_FIGURES, odd_values

ADD = ("add", "1.0K")


class Told(Exception):
    """An error of a watch."""


class Stop(BaseException):
    """An error of a watch that is none of the usual ones."""


class Same:
    """A thing that says it is equal to everything."""

    def __eq__(self, other):
        return True


# Values that are no deeds.
NO_DEEDS = [None, 5, True, "add", "", [], ["add", "1.0K"], (), ("add",), ("change", 0), ("remove",), ("expect",),
            ("add", "1.0K", 1), ("change", 0, "1.0K", 1), ("change", "1.0K"), ("remove", 0, "1.0K"), ("expect", "0", 0),
            ("undo",), ("undo", 1), ("do_all", ADD), ("trial", 1), ("forget", None), ("Add", "1.0K"), ("ADD", "1.0K"),
            ("add ", "1.0K"), ("", "1.0K"), ("ad", "1.0K"), ("dd", "1.0K"), (None, "1.0K"), (0, "1.0K"), (True, "1.0K"),
            (b"add", "1.0K"), (("add",), "1.0K"), (["add"], "1.0K"), ("1.0K", "add"), (Same(), "1.0K"),
            {"add": "1.0K"}, ADD * 2, (ADD,), sample_ladder()] + odd_values()


class DoAllTest(BookCase):

    def test_no_deeds(self):
        for watch in (None, lambda book, place: self.fail("called")):
            book = filled("1.0K")
            before = all_of(book)
            self.assertIsNone(book.do_all(watch=watch))
            self.assertEqual(before, all_of(book))
            book.undo()
            self.assertRaises(NothingToUndo, book.undo)

    def test_each_deed(self):
        book = Book(sample_ladder())
        self.assertIsNone(book.do_all(ADD, ("add", "7"), ("change", 1, "8"), ("add", "9"), ("expect", "1.0K"),
                                      ("remove", 1), ("expect", None), ("expect", "1.0K")))
        self.assertEqual([("1.0K", "9"), "1.0K", ((1000, 1040), (9, 9)), (1009, 1049)],
                         [book.texts, book.total, book.ranges, book.sum])

    def test_the_single_deeds_are_undone(self):
        book = filled("5")
        book.do_all(ADD, ("expect", "1.0K"), ("change", 0, "5"), ("remove", 0))
        for texts, total in ((("5", "1.0K"), "1.0K"), (("5", "1.0K"), "1.0K"), (("5", "1.0K"), None), (("5",), None),
                             ((), None)):
            self.assertIsNone(book.undo())
            self.assertEqual([texts, total], [book.texts, book.total])
        self.assertRaises(NothingToUndo, book.undo)

    def test_deeds_that_are_possible_only_in_their_order(self):
        book = filled("5", total="5")
        self.assert_error(Impossible, None, lambda: filled("5", total="5"), lambda book: book.add("1"))
        book.do_all(("expect", None), ("add", "1"), ("expect", "6"))
        self.assertEqual([("5", "1"), "6"], [book.texts, book.total])
        self.assert_error(Impossible, None, lambda: filled("5", total="5"),
                          lambda book: book.do_all(("add", "1"), ("expect", "6")))

    def test_the_watch_is_called_after_each_deed(self):
        book, seen = filled("5"), []

        def watch(*told, **more):
            self.assertEqual({}, more)
            self.assertIs(book, told[0])
            seen.append(told[1:] + all_of(book)[1:])
            return False

        deeds = (ADD, ("expect", "1.0K"), ("change", 0, "6"))
        self.assertIsNone(book.do_all(*deeds, watch=watch))
        self.assertEqual([
            (0, ("5", "1.0K"), None, ((5, 5), (1000, 1049)), (1005, 1054), True, 2, "Book(2 rows)", True),
            (1, ("5", "1.0K"), "1.0K", ((5, 5), (1000, 1044)), (1005, 1049), True, 2, "Book(2 rows)", True),
            (2, ("6", "1.0K"), "1.0K", ((6, 6), (1000, 1043)), (1006, 1049), True, 2, "Book(2 rows)", True)], seen)
        self.assertIs(False, book.busy)

    def test_what_the_watch_returns_does_not_matter(self):
        for told in (None, True, False, 0, "no", ValueError, ValueError("no"), NotImplemented):
            book = Book(sample_ladder())
            self.assertIsNone(book.do_all(ADD, ADD, watch=lambda book, place: told))
            self.assertEqual(2, len(book))

    def test_a_deed_in_the_middle_that_fails(self):
        for bad, kind, value in (
                (("add", "no"), InvalidFigure, "no"), (("add", "0.5K"), NeverShown, "0.5K"),
                (("change", 9, "5"), InvalidPlace, 9), (("change", 0, None), InvalidFigure, None),
                (("change", 0, "0.5K"), NeverShown, "0.5K"), (("change", 0, "1.0M"), Impossible, None),
                (("remove", -1), InvalidPlace, -1), (("remove", 0), Impossible, None),
                (("expect", 5), InvalidFigure, 5),
                (("expect", "0.5K"), NeverShown, "0.5K"), (("expect", "7"), Impossible, None),
                (("add", "1.0M"), Impossible, None)):
            for before in ((), (("change", 1, "6"),), (("expect", None), ("add", "7"), ("expect", "2.0K"))):
                for behind in ((), (("expect", None),), (("add", None), ("remove", None))):
                    seen = []
                    self.assert_error(
                        kind, value, lambda: filled("1.0K", "5", "1.0K", total="2.0K"),
                        lambda book: book.do_all(*before, bad, *behind, watch=lambda book, place: seen.append(place)))
                    self.assertEqual(list(range(len(before))), seen)

    def test_too_many_rows_on_the_way(self):
        seven = lambda: filled(*["1.0K"] * 7)
        self.assert_error(TooMany, 12, seven, lambda book: book.do_all(*[ADD] * 6))
        self.assert_error(TooMany, 12, seven, lambda book: book.do_all(*[ADD] * 6, ("remove", 0)))
        book = seven()
        book.do_all(("remove", 0), *[ADD] * 6)
        self.assertEqual(12, len(book))

    def test_a_watch_that_raises(self):
        for at in range(3):
            for error in (Told("no"), Stop(), Busy(), Impossible(), InvalidFigure(5), KeyboardInterrupt(),
                          StopIteration(), GeneratorExit()):
                book, other, seen = filled("5", total="5"), filled("5", total="5"), []

                def watch(book, place):
                    seen.append(place)
                    if place == at:
                        raise error

                with self.assertRaises(error.__class__) as caught:
                    book.do_all(("expect", None), ADD, ("remove", 0), watch=watch)
                self.assertIs(error, caught.exception)
                self.assertEqual(list(range(at + 1)), seen)
                self.assertEqual(self.undone(other), self.undone(book))

    def test_a_watch_that_raises_after_the_last_deed(self):
        book = Book(sample_ladder())

        def watch(book, place):
            if len(book) == 2:
                raise Told()

        self.assertRaises(Told, book.do_all, ADD, ADD, watch=watch)
        self.assertEqual([(), False], [book.texts, book.busy])
        self.assertRaises(NothingToUndo, book.undo)

    def test_busy_only_during_the_call(self):
        book, seen = Book(sample_ladder()), []
        self.assertIs(False, book.busy)
        book.do_all(ADD, watch=lambda book, place: seen.append(book.busy))
        self.assertIs(True, seen[0])
        self.assertIs(False, book.busy)
        self.assertRaises(Impossible, book.do_all, ("expect", "0"))
        self.assertIs(False, book.busy)
        self.assertRaises(InvalidDeeds, book.do_all, None)
        self.assertIs(False, book.busy)
        self.assertEqual(1, book.add("5"))

    def test_what_is_refused_during_the_call(self):
        refused = []

        def watch(book, place):
            before = all_of(book)
            for act in (lambda: book.add("1.0K"), lambda: book.change(0, "1.0K"), lambda: book.remove(0),
                        lambda: book.expect(None), lambda: book.do_all(), lambda: book.do_all(ADD), book.undo,
                        book.trial, lambda: attempt(book, len), lambda: book.add(None), lambda: book.change(None, None),
                        lambda: book.remove(-1), lambda: book.expect(5), lambda: book.do_all(None)):
                with self.assertRaises(Busy) as caught:
                    act()
                self.assertIs(Busy, caught.exception.__class__)
                self.assertEqual(before, all_of(book))
                refused.append(place)

        book = filled("5")
        book.do_all(ADD, ("expect", "1.0K"), watch=watch)
        self.assertEqual([0] * 14 + [1] * 14, refused)
        self.assertEqual([("5", "1.0K"), "1.0K"], [book.texts, book.total])

    def test_an_error_of_a_refused_call_ends_all(self):
        for act in (lambda book: book.add("5"), lambda book: book.undo(), lambda book: book.do_all(),
                    lambda book: book.trial()):
            self.assert_refusal_ends(act)

    def assert_refusal_ends(self, act):
        book = filled("5")
        self.assertRaises(Busy, book.do_all, ADD, ADD, watch=lambda book, place: act(book))
        self.assertEqual([("5",), False], [book.texts, book.busy])

    def test_other_books_are_not_busy(self):
        one, two = Book(sample_ladder()), Book(sample_ladder())
        one.do_all(ADD, ADD, watch=lambda book, place: two.do_all(ADD, watch=lambda book, place: self.assertIs(
            True, one.busy)))
        self.assertEqual([2, 2], [len(one), len(two)])
        two.undo()
        self.assertEqual([2, 1], [len(one), len(two)])


class DeedsOfAWrongFormTest(BookCase):

    def assert_index_only(self, index, *deeds):
        """Check that there is just this error, before any deed."""
        book, other = filled("1.0K", "5", total="1.0K"), filled("1.0K", "5", total="1.0K")
        self.assert_index(InvalidDeeds, index, book.do_all, *deeds, watch=lambda book, place: self.fail("called"))
        self.assertEqual(self.undone(other), self.undone(book))

    def test_no_deed(self):
        good = ("change", 1, "5")
        for bad in NO_DEEDS:
            with self.subTest(bad=bad):
                self.assert_index_only(0, bad)
                self.assert_index_only(0, bad, good)
                self.assert_index_only(1, good, bad, bad)
                self.assert_index_only(3, good, good, good, bad, None)

    def test_before_the_errors_of_deeds(self):
        self.assert_index_only(1, ("add", "no"), None)
        self.assert_index_only(2, ("remove", 9), ("expect", "1.0M"), ("add",))
        self.assert_index_only(12, *[("add", "1.0K")] * 12, "add")

    def test_elements_may_be_anything(self):
        for value in NO_FIGURES:
            if value is not None:
                for deed in (("add", value), ("change", 0, value), ("expect", value)):
                    self.assert_error(InvalidFigure, value, lambda: filled("5"), lambda book: book.do_all(deed))
        for value in [-1, 1, True, "0", None] + odd_values():
            for deed in (("change", value, "7"), ("change", value, None), ("remove", value)):
                self.assert_error(InvalidPlace, value, lambda: filled("5"), lambda book: book.do_all(deed))

    def test_deeds_by_position_and_the_watch_by_keyword(self):
        book = Book(sample_ladder())
        self.assertRaises(TypeError, lambda: book.do_all(deeds=(ADD,)))
        self.assert_index(InvalidDeeds, 1, book.do_all, ADD, lambda book, place: None)
        self.assertEqual(0, len(book))


class BesideAListTest(BookCase):

    def test_some_hundred_calls(self):
        chance = random.Random(44)
        errors, done = {}, {}
        for rule in CHOSEN:
            twins = Twins(self, rule)
            for _ in range(50):
                kind = chance.randrange(10)
                if kind == 0:
                    twins.undo()
                elif kind == 1:
                    twins.do(some_deed(chance, twins))
                else:
                    deeds = self.some_deeds(chance, twins)
                    many = self.call(chance, twins, deeds)
                    done[many] = done.get(many, 0) + 1
            twins.undo_all()
            for kind, many in twins.errors.items():
                errors[kind] = errors.get(kind, 0) + many
        for kind in (InvalidFigure, NeverShown, InvalidPlace, InvalidDeeds, Impossible, Busy):
            self.assertGreater(errors.get(kind, 0), 20, kind)
        for many in range(5):
            self.assertGreater(done.get(many, 0), 20, many)

    def some_deeds(self, chance, twins):
        """Return several deeds, which often can be done one after the other."""
        before, deeds = twins.state(), []
        for _ in range(chance.randrange(6)):
            deed = some_deed(chance, twins)
            if not isinstance(twins.after(deed)[0], type):
                twins.rows, twins.total = twins.after(deed)
            elif chance.random() < 0.8:
                continue
            deeds.append(deed)
        twins.go_to(before)
        if chance.random() < 0.05:
            deeds.insert(chance.randrange(len(deeds) + 1), chance.choice(NO_DEEDS))
        return deeds

    def call(self, chance, twins, deeds):
        """Do deeds with some watch, and return after how many it was called."""
        way, at = chance.randrange(4), chance.randrange(4)
        trial = twins.book.trial()

        def watch(book, place):
            if way == 1 and place == at:
                raise Told()
            if way == 2:
                twins.refused(trial)
            return chance.random()

        try:
            return len(twins.do_all(deeds, watch if way else None))
        except Told:
            twins.check()
            return at + 1


if __name__ == "__main__":
    unittest.main()
