"""A book beside a simple list of rows and a total, kept by the tests, and deeds done to both."""

from shortfigures.books import Book
from shortfigures.errors import (
    Busy, Impossible, InvalidDeeds, InvalidFigure, InvalidPlace, NeverShown, NothingToUndo, TooMany)
from tests.oracle import rules, runs, shown, step_of, written
from tests.test_show import made

LAST = 1200

# Small ladders whose figures stand for few numbers.
CHOSEN = [rule for rule in rules((
    ((("", 1), ("A", 2), ("B", 6), ("C", 18)), (0,)),
    ((("", 1), ("a", 4), ("b", 12), ("c", 36)), (0,)),
    ((("x", 1), ("", 20), ("Xyz", 100)), (0, 1)),
    ((("x", 1),), (2,)),
), (1, 2)) if step_of(rule, len(rule[0]) - 1) <= 36]

# For each rule, a dict from its figures to their ranges, as seen by going through the numbers.
KNOWN = {}
# What columns tell, as far as it has been asked for.
TOLD = {}


def ranges_of(rule):
    if rule not in KNOWN:
        KNOWN[rule] = {text: (low, high) for text, low, high in runs(rule, LAST)}
    return KNOWN[rule]


def spread(mask, ends):
    """Return the set of all sums of a number of a set and one of a range; sets are integers, bit by bit."""
    found = 0
    for number in range(ends[0], ends[1] + 1):
        found |= mask << number
    return found


def told(rule, texts, total):
    """Return the ranges of the rows and of the sums, by trying all sums, or None if they cannot be true together."""
    key = (rule, tuple(texts), total)
    if key not in TOLD:
        TOLD[key] = tried(rule, texts, total)
    return TOLD[key]


def tried(rule, texts, total):
    ranges = [ranges_of(rule)[text] for text in texts]
    allowed = -1 if total is None else spread(1, ranges_of(rule)[total])
    sums = 1
    for ends in ranges:
        sums = spread(sums, ends)
    if sums & allowed == 0:
        return None
    rows = []
    for place, (low, high) in enumerate(ranges):
        others = 1
        for ends in ranges[:place] + ranges[place + 1:]:
            others = spread(others, ends)
        rows.append(ends_of([number for number in range(low, high + 1) if (others << number) & allowed]))
    return tuple(rows), ends_of([number for number in range(sums.bit_length()) if (sums & allowed) >> number & 1])


def ends_of(numbers):
    assert numbers == list(range(numbers[0], numbers[-1] + 1))
    return numbers[0], numbers[-1]


class Twins:
    """A book and what the tests keep beside it: rows, a total, and all rows and totals before."""

    def __init__(self, case, rule):
        self.case = case
        self.rule = rule
        self.book = Book(made(rule))
        self.rows = []
        self.total = None
        self.past = []
        self.busy = False
        self.errors = {}

    def state(self):
        return list(self.rows), self.total, list(self.past)

    def go_to(self, state):
        self.rows, self.total, self.past = list(state[0]), state[1], list(state[2])

    def check(self):
        """Hold the book against what is kept beside it."""
        book, case = self.book, self.case
        case.assertEqual((tuple(self.rows), self.total), (book.texts, book.total))
        case.assertIsInstance(book.texts, tuple)
        case.assertEqual(told(self.rule, self.rows, self.total), (book.ranges, book.sum))
        case.assertEqual(len(self.rows), len(book))
        case.assertEqual(f"Book({len(self.rows)} rows)", repr(book))
        case.assertIs(bool(self.rows), bool(book))
        case.assertIs(self.busy, book.busy)

    def after(self, deed):
        """Return the rows and the total after a deed, or the class of the error that it has to raise, and its value."""
        word, *given = deed
        rows, total = list(self.rows), self.total
        if word in ("change", "remove"):
            place = given[0]
            if isinstance(place, bool) or not isinstance(place, int) or not 0 <= place < len(rows):
                return InvalidPlace, place
        if word != "remove" and not (word == "expect" and given[0] is None):
            text = given[-1]
            if not self.is_figure(text):
                return InvalidFigure, text
            if text not in ranges_of(self.rule):
                return NeverShown, text
        if word == "add":
            if len(rows) == 12:
                return TooMany, 12
            rows.append(given[0])
        elif word == "change":
            rows[given[0]] = given[1]
        elif word == "remove":
            del rows[given[0]]
        else:
            total = given[0]
        return (rows, total) if told(self.rule, rows, total) else (Impossible, None)

    def is_figure(self, text):
        return isinstance(text, str) and text in self.all_figures()

    def all_figures(self):
        """Return all figures that the tests pass here, those that are not shown included."""
        return list(ranges_of(self.rule)) + self.rare_figures()

    def rare_figures(self):
        """Return figures of which most are not shown, and none far behind the others."""
        last = len(self.rule[0]) - 1
        found = [written(self.rule, place, mark) for place in range(last) for mark in (0, 1, 10 ** 6)]
        return found + [written(self.rule, last, mark) for mark in (0, 1)]

    def call(self, deed):
        """Do a deed with the method of the book that is called like it."""
        word, *given = deed
        return getattr(self.book, word)(*given)

    def raises(self, kind, value, act):
        with self.case.assertRaises(kind) as caught:
            act()
        self.case.assertIs(kind, caught.exception.__class__)
        if kind in (InvalidFigure, NeverShown, InvalidPlace):
            self.case.assertIs(value, caught.exception.value)
        elif kind is TooMany:
            self.case.assertEqual(value, caught.exception.limit)
        elif kind is InvalidDeeds:
            self.case.assertEqual(value, caught.exception.index)
        self.errors[kind] = self.errors.get(kind, 0) + 1

    def do(self, deed):
        """Do a deed to both, and hold them against one another."""
        one, two = self.after(deed)
        if isinstance(one, type):
            self.raises(one, two, lambda: self.call(deed))
        else:
            self.past.append((self.rows, self.total))
            self.rows, self.total = one, two
            self.case.assertEqual(len(one) - 1 if deed[0] == "add" else None, self.call(deed))
        self.check()

    def undo(self):
        if self.past:
            self.rows, self.total = self.past.pop()
            self.case.assertIsNone(self.book.undo())
        else:
            self.raises(NothingToUndo, None, self.book.undo)
        self.check()

    def undo_all(self):
        """Take back all deeds, one by one, and leave nothing that could be taken back."""
        while self.past:
            self.undo()
        self.undo()

    def do_all(self, deeds, watch=None):
        """Do several deeds at once to both; the watch is called between them, and may not change anything."""
        before, bad = self.state(), [place for place, deed in enumerate(deeds) if not is_deed(deed)]
        error = (InvalidDeeds, bad[0]) if bad else None
        followed = []

        def follow(book, place):
            self.case.assertIs(self.book, book)
            self.case.assertEqual(len(followed), place)
            self.case.assertNotIsInstance(place, bool)
            self.past.append((self.rows, self.total))
            self.rows, self.total = self.after(deeds[place])
            followed.append(place)
            self.busy = True
            self.check()
            return watch and watch(book, place)

        if error is None:
            error = self.first_error(deeds)
        try:
            if error is None:
                self.case.assertIsNone(self.book.do_all(*deeds, watch=follow))
                self.case.assertEqual(list(range(len(deeds))), followed)
            else:
                self.raises(*error, lambda: self.book.do_all(*deeds, watch=follow))
                self.go_to(before)
        except BaseException:
            self.go_to(before)
            raise
        finally:
            self.busy = False
            self.check()
        return followed

    def first_error(self, deeds):
        """Return the error of the first deed that has one, or None."""
        before = self.state()
        for deed in deeds:
            one, two = self.after(deed)
            if isinstance(one, type):
                self.go_to(before)
                return one, two
            self.rows, self.total = one, two
        self.go_to(before)
        return None

    def refused(self, trial=None):
        """Check that all that would change the book is refused, and that nothing else is."""
        book, texts = self.book, list(ranges_of(self.rule))
        for act in (lambda: book.add(texts[0]), lambda: book.add(None), lambda: book.change(0, texts[0]),
                    lambda: book.change(-1, 5), lambda: book.remove(0), lambda: book.remove("no"),
                    lambda: book.expect(texts[0]), lambda: book.expect(None), lambda: book.expect([]),
                    lambda: book.do_all(), lambda: book.do_all(("add", texts[0])), lambda: book.do_all(5, watch=5),
                    book.undo, book.trial):
            self.raises(Busy, None, act)
            self.check()
        if trial is not None:
            with trial as held:
                self.case.assertIs(book, held)
                self.raises(Busy, None, lambda: book.add(texts[0]))
                self.check()
            self.check()


def is_deed(deed):
    return (isinstance(deed, tuple) and len(deed) > 0 and isinstance(deed[0], str)
            and len(deed) == {"add": 2, "change": 3, "remove": 2, "expect": 2}.get(deed[0]))


def some_deed(chance, twins):
    """Return a deed that mostly can be done."""
    word = chance.choice(("add", "add", "add", "change", "change", "remove", "expect", "expect"))
    near = sum(ranges_of(twins.rule)[text][0] for text in twins.rows)
    texts = list(ranges_of(twins.rule))[:chance.choice((8, 16, 24))]
    text = chance.choice(texts)
    if word == "expect":
        text = shown(twins.rule, max(0, near + chance.randrange(-6, 40)))
        if text not in ranges_of(twins.rule):
            text = texts[0]
    if chance.random() < 0.06:
        text = chance.choice(twins.rare_figures())
    if chance.random() < 0.03:
        text = chance.choice(["", "no", "01", 5, True, ("1",), b"1", ["1"]])
    if word == "expect" and chance.random() < 0.4:
        text = None
    place = chance.randrange(max(1, len(twins.rows)))
    if chance.random() < 0.05:
        place = chance.choice([-1, len(twins.rows), True, False, "0", None, 10 ** 21, (0,)])
    return {"add": ("add", text), "change": ("change", place, text), "remove": ("remove", place),
            "expect": ("expect", text)}[word]
