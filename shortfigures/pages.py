"""What a book holds after each of its deeds.

A page does not change. A deed makes a new page behind the one before it, or raises an error.
"""

from shortfigures.columns import told_column
from shortfigures.errors import Impossible, InvalidPlace, TooMany
from shortfigures.kinds import is_within
from shortfigures.limits import MOST_ROWS
from shortfigures.ranges import range_of_shown


class Page:
    """The rows and the total of a book, what they tell, and the page before it."""

    def __init__(self, texts, total, ranges, sums, before):
        self.texts = texts
        self.total = total
        self.ranges = ranges
        self.sum = sums
        self.before = before


def first_page():
    """Return a page without rows and without a total."""
    return Page((), None, (), (0, 0), None)


def added(ladder, page, text):
    """Return the page with one more row behind the others."""
    range_of_shown(ladder, text)
    if len(page.texts) == MOST_ROWS:
        raise TooMany(MOST_ROWS)
    return page_behind(ladder, page, page.texts + (text,), page.total)


def changed(ladder, page, place, text):
    """Return the page with another figure in a row."""
    check_place(page, place)
    range_of_shown(ladder, text)
    return page_behind(ladder, page, page.texts[:place] + (text,) + page.texts[place + 1:], page.total)


def removed(ladder, page, place):
    """Return the page without a row."""
    check_place(page, place)
    return page_behind(ladder, page, page.texts[:place] + page.texts[place + 1:], page.total)


def expected(ladder, page, total):
    """Return the page with another total, or without one if it is None."""
    if total is not None:
        range_of_shown(ladder, total)
    return page_behind(ladder, page, page.texts, total)


def page_behind(ladder, page, texts, total):
    """Return the page with these rows and this total. Raise Impossible if they cannot be true together."""
    found = told_column(ladder, texts, total)
    if found is None:
        raise Impossible()
    ranges, sums = found
    return Page(texts, total, ranges, sums, page)


def check_place(page, place):
    """Raise InvalidPlace unless this is the place of a row."""
    if not is_within(place, 0, len(page.texts) - 1):
        raise InvalidPlace(place)
