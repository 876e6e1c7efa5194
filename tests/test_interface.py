"""Everything that the document lists, with its arguments: by position, by keyword, and in another order."""

import importlib
import inspect
import itertools
import unittest

from shortfigures.books import Book
from shortfigures.console import Console
from shortfigures.ladders import Ladder
from shortfigures.samples import sample_ladder
from tests.oracle import THOUSANDS

NEAR = sample_ladder()
PLAIN = Ladder(THOUSANDS, 0, "near")
ROWS = ("1.0K", "1.0K")
CLAIM = ("unlike", NEAR.told, PLAIN.told)

# The functions of each file: names, parameters, and arguments with which they can be called.
FUNCTIONS = {
    "ladders": (("show", "ladder number", (NEAR, 1050)), ("worth", "ladder text", (NEAR, "1000.0K")),
                ("is_shown", "ladder text", (NEAR, "1.0K"))),
    "samples": (("sample_ladder", "", ()),),
    "ranges": (("range_of", "ladder text", (NEAR, "1.0K")), ("hidden", "ladder number", (NEAR, 1100)),
               ("next_figure", "ladder text", (NEAR, "1.0K")), ("previous_figure", "ladder text", (NEAR, "1.0K")),
               ("forms", "ladder low high", (NEAR, 0, 2000)), ("figure_at", "ladder place", (NEAR, 1000)),
               ("place_of", "ladder text", (NEAR, "1.1K")), ("widest", "ladder number", (NEAR, 999949))),
    "alike": (("first_unlike", "ladder other", (NEAR, PLAIN)), ("are_alike", "ladder other", (NEAR, PLAIN)),
              ("first_drift", "ladder", (NEAR,)), ("is_steady", "ladder", (NEAR,))),
    "tells": (("first_untold", "ladder other", (NEAR, PLAIN)), ("tells", "ladder other", (NEAR, PLAIN)),
              ("figures_in", "ladder text other", (NEAR, "1.5K", PLAIN))),
    "sights": (("numbers_of", "sights", (((NEAR, "1.5K"),),)), ("only_number", "sights", (((NEAR, "7"),),)),
               ("needed", "sights", (((NEAR, "1.5K"), (PLAIN, "1K")),))),
    "changes": (("difference", "ladder text other_text", (NEAR, "1.0K", "1.1K")),
                ("compared", "ladder text other_text", (NEAR, "1.0K", "1.1K")),
                ("rising", "ladder texts", (NEAR, ROWS)), ("least_rising", "ladder texts", (NEAR, ROWS)),
                ("always_rise", "ladder texts", (NEAR, ROWS)), ("first_fall", "ladder texts", (NEAR, ("7", "5")))),
    "columns": (("sum_range", "ladder texts", (NEAR, ROWS)), ("totals", "ladder texts", (NEAR, ROWS)),
                ("sure_total", "ladder texts", (NEAR, ROWS[:1])),
                ("column", "ladder texts total", (NEAR, ROWS, "2.1K")),
                ("numbers_for", "ladder texts total", (NEAR, ROWS, "2.1K")),
                ("rows_for", "ladder texts total", (NEAR, ROWS, "2.4K"))),
    "families": (("fitting", "units seen", (THOUSANDS, ((1050, "1.0K"),))),
                 ("parting", "units triples", (THOUSANDS, ((1, "near", True), (1, "even", True))))),
    "books": (("within", "trial act", (Book(NEAR).trial(), len)), ("attempt", "book act", (Book(NEAR), len))),
    "checker": (("holds", "claim paper", (CLAIM, 1000)),),
    "certificates": (("certify_alike", "ladder other", (NEAR, PLAIN)), ("certify_steady", "ladder", (NEAR,)),
                     ("certify_tells", "ladder other", (NEAR, PLAIN)),
                     ("certify_column", "ladder texts total", (NEAR, ROWS, "2.1K"))),
    "reports": (("range_table", "ladder low high", (NEAR, 998, 1060)), ("book_report", "book", (Book(NEAR),))),
}
CLASSES = {"ladders": "Ladder", "books": "Book", "console": "Console"}
# The methods of a book with what they are called with, one after the other.
METHODS = (("add", "text", ("1.0K",)), ("add", "text", ("7",)), ("change", "place text", (1, "8")),
           ("expect", "total", ("1.0K",)), ("expect", "total", (None,)), ("remove", "place", (1,)), ("undo", "", ()))
LIMITS = {"MOST_UNITS": 6, "MOST_DECIMALS": 3, "MOST_LEAST": 1000, "MOST_NUMBER": 10 ** 18, "MOST_DIGITS": 24,
          "MOST_SIGHTS": 4, "MOST_ROWS": 12}


def file_of(name):
    return importlib.import_module("shortfigures." + name)


def listed():
    """Return triples of a function, the names of its parameters, and arguments for it."""
    return [(getattr(file_of(name), function), parameters.split(), given)
            for name, functions in FUNCTIONS.items() for function, parameters, given in functions]


def ways(parameters, given):
    """Return all ways to pass arguments: some by position, the others by keyword, in all orders."""
    found = []
    for many in range(len(given) + 1):
        for order in itertools.permutations(list(zip(parameters, given))[many:]):
            found.append((given[:many], dict(order)))
    return found


class InterfaceTest(unittest.TestCase):

    def test_files_and_functions(self):
        self.assertEqual(45, len(listed()))
        for name, functions in FUNCTIONS.items():
            for function, parameters, _ in functions:
                act = getattr(file_of(name), function)
                self.assertTrue(inspect.isfunction(act))
                self.assertEqual(("shortfigures." + name, function), (act.__module__, act.__name__))
                told = inspect.signature(act).parameters.values()
                self.assertEqual(parameters.split(), [one.name for one in told])
                for one in told:
                    self.assertEqual((one.POSITIONAL_OR_KEYWORD, one.empty), (one.kind, one.default))

    def test_classes(self):
        for name, kind in CLASSES.items():
            found = getattr(file_of(name), kind)
            self.assertTrue(inspect.isclass(found))
            self.assertEqual(("shortfigures." + name, kind), (found.__module__, found.__name__))

    def test_limits(self):
        for name, number in LIMITS.items():
            self.assertEqual(number, getattr(file_of("limits"), name))

    def test_functions_by_position_and_by_keyword(self):
        for act, parameters, given in listed():
            expected = act(*given)
            for args, more in ways(parameters, given):
                self.assertEqual(expected, act(*args, **more), (act.__name__, more))

    def test_equal_calls_give_the_same_result(self):
        for act, _, given in listed():
            self.assertEqual(act(*given), act(*given))

    def test_too_few_and_too_many_arguments(self):
        for act, _, given in listed():
            self.assertRaises(TypeError, act, *given, None)
            if given:
                self.assertRaises(TypeError, act, *given[:-1])

    def test_ladders_by_position_and_by_keyword(self):
        parameters, given = ("units", "decimals", "rounding"), (THOUSANDS, 1, "near")
        for args, more in ways(parameters, given):
            for order in ({"carry": False, "least": 7}, {"least": 7, "carry": False}):
                for both in ({**more, **order}, {**order, **more}):
                    self.assertEqual((THOUSANDS, 1, "near", False, 7), Ladder(*args, **both).told)

    def test_methods_of_books_by_position_and_by_keyword(self):
        for args, more in (((NEAR,), {}), ((), {"ladder": NEAR})):
            self.assertEqual(0, len(Book(*args, **more)))
        one = Book(NEAR)
        several = [Book(NEAR) for _ in range(3)]
        for name, parameters, given in METHODS:
            expected = getattr(one, name)(*given)
            for book, (args, more) in zip(several, itertools.cycle(reversed(ways(parameters.split(), given)))):
                self.assertEqual(expected, getattr(book, name)(*args, **more))
                self.assertEqual((one.texts, one.total, one.ranges, one.sum),
                                 (book.texts, book.total, book.ranges, book.sum))

    def test_do_all_by_position_with_a_watch_by_keyword(self):
        book, seen = Book(NEAR), []
        book.do_all(("add", "5"), ("add", "6"), watch=lambda book, place: seen.append(place))
        self.assertEqual([[0, 1], ("5", "6")], [seen, book.texts])
        told = inspect.signature(Book.do_all).parameters
        self.assertEqual(["self", "deeds", "watch"], list(told))
        self.assertEqual([inspect.Parameter.VAR_POSITIONAL, inspect.Parameter.KEYWORD_ONLY],
                         [told["deeds"].kind, told["watch"].kind])

    def test_consoles_by_position_and_by_keyword(self):
        for console in (Console(NEAR), Console(ladder=NEAR)):
            self.assertEqual(["5-5", "11-11"], [console.say("add 5"), console.say(line="add 6")])

    def test_truth(self):
        for thing in (Console(NEAR), Book(NEAR).trial(), NEAR):
            self.assertIs(True, bool(thing))
        book = Book(NEAR)
        self.assertIs(False, bool(book))
        book.add("0")
        self.assertIs(True, bool(book))

    def test_equality_between_all_kinds(self):
        things = [NEAR, PLAIN, Book(NEAR), Book(NEAR), Console(NEAR), Console(NEAR), Book(NEAR).trial(), NEAR.told,
                  "1.0K", 5, None, True, (), [], {}]
        for one, two in itertools.product(things, repeat=2):
            self.assertIs(one is two, one == two)
            self.assertIs(one is not two, one != two)
        self.assertEqual(NEAR, sample_ladder())


if __name__ == "__main__":
    unittest.main()
