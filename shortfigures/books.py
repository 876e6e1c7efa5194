"""Books, which hold the rows and the total of a column, and never what cannot be true."""

from shortfigures.errors import Busy, InvalidDeeds, NotABook, NothingToUndo
from shortfigures.ladders import check_ladder
from shortfigures.pages import added, changed, expected, first_page, removed

# The words of deeds, and how many elements a deed has.
DEEDS = (("add", 2), ("change", 3), ("remove", 2), ("expect", 2))


class Book:
    """The rows and the total of a column, with all deeds that can be taken back."""

    def __init__(self, ladder):
        check_ladder(ladder)
        self.ladder = ladder
        self.busy = False
        self.page = first_page()
        self.texts = self.page.texts
        self.total = self.page.total
        self.ranges = self.page.ranges
        self.sum = self.page.sum

    def __len__(self):
        return len(self.texts)

    def __repr__(self):
        return f"Book({len(self.texts)} rows)"

    def add(self, text):
        """Put a row behind the others, and return its place."""
        self.check_idle()
        self.turn_to(added(self.ladder, self.page, text))
        return len(self.texts) - 1

    def change(self, place, text):
        """Put another figure into a row."""
        self.check_idle()
        self.turn_to(changed(self.ladder, self.page, place, text))

    def remove(self, place):
        """Take a row out; the rows behind it move up."""
        self.check_idle()
        self.turn_to(removed(self.ladder, self.page, place))

    def expect(self, total):
        """Set the total, or take it away if it is None."""
        self.check_idle()
        self.turn_to(expected(self.ladder, self.page, total))

    def do_all(self, *deeds, watch=None):
        """Do several deeds, all or none of them, and call `watch(book, place)` after each one."""
        self.check_idle()
        check_deeds(deeds)
        self.busy = True
        try:
            with Trial(self):
                self.do_each(deeds, watch)
                reached = self.page
        finally:
            self.busy = False
        # Whatever happens, the trial goes back. Only here it is sure that there was no error.
        self.turn_to(reached)

    def undo(self):
        """Take back the last deed that has not been taken back."""
        self.check_idle()
        if self.page.before is None:
            raise NothingToUndo()
        self.turn_to(self.page.before)

    def trial(self):
        """Return a context manager for blocks after which the book is again as it was before."""
        self.check_idle()
        return Trial(self)

    def check_idle(self):
        """Raise Busy during `do_all`."""
        if self.busy:
            raise Busy()

    def turn_to(self, page):
        """Let the book hold what is on a page."""
        self.page = page
        self.texts = page.texts
        self.total = page.total
        self.ranges = page.ranges
        self.sum = page.sum

    def do_each(self, deeds, watch):
        """Do several deeds, which have the right form, up to the first one that has an error."""
        for place, deed in enumerate(deeds):
            self.turn_to(page_after(self.ladder, self.page, deed))
            if watch is not None:
                watch(self, place)


class Trial:
    """A context manager for blocks after which a book is again as it was before."""

    def __init__(self, book):
        self.book = book
        self.kept = None

    def __enter__(self):
        self.kept = Kept(self.book.page, self.kept)
        return self.book

    def __exit__(self, kind, value, trace):
        # These are the rows of `turn_to`, which must not be called here.
        self.book.page = self.kept.page
        self.book.texts = self.kept.page.texts
        self.book.total = self.kept.page.total
        self.book.ranges = self.kept.page.ranges
        self.book.sum = self.kept.page.sum
        self.kept = self.kept.before


class Kept:
    """The page to which the inmost block of a trial goes back, and what is kept for the block around it."""

    def __init__(self, page, before):
        self.page = page
        self.before = before


def within(trial, act):
    """Return the result of `act(book)` in a block of a trial."""
    with trial as book:
        return act(book)


def attempt(book, act):
    """Return the result of `act(book)`, and leave the book as it was."""
    if not isinstance(book, Book):
        raise NotABook(book)
    return within(book.trial(), act)


def page_after(ladder, page, deed):
    """Return the page after a deed that has the right form."""
    word, *given = deed
    if word == "add":
        return added(ladder, page, *given)
    if word == "change":
        return changed(ladder, page, *given)
    if word == "remove":
        return removed(ladder, page, *given)
    return expected(ladder, page, *given)


def check_deeds(deeds):
    """Raise InvalidDeeds unless all deeds have the right form."""
    for place, deed in enumerate(deeds):
        if not is_deed(deed):
            raise InvalidDeeds(place)


def is_deed(deed):
    """Tell whether a value is a tuple of the word of a deed and of as many elements as belong to it."""
    if not isinstance(deed, tuple) or len(deed) == 0 or not isinstance(deed[0], str):
        return False
    return (deed[0], len(deed)) in DEEDS
