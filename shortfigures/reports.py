"""Texts that list figures with their ranges."""

from shortfigures.books import Book
from shortfigures.errors import NotABook, TooMany
from shortfigures.marks import placed, written
from shortfigures.ranges import forms
from shortfigures.stretches import numbers_shown

MOST_LINES = 200


def range_table(ladder, low, high):
    """Return a text with one line for each figure that is shown for the numbers from `low` to `high`."""
    many = forms(ladder, low, high)
    if many > MOST_LINES:
        raise TooMany(MOST_LINES)
    lines = []
    number = low
    for _ in range(many):
        unit, mark = placed(ladder, number)
        ends = numbers_shown(ladder, unit, mark)
        lines.append(line_of(written(ladder, unit, mark), ends))
        number = ends[1] + 1
    return "\n".join(lines)


def book_report(book):
    """Return a text with one line for each row of a book, and a last one for its total."""
    if not isinstance(book, Book):
        raise NotABook(book)
    lines = [line_of(text, ends) for text, ends in zip(book.texts, book.ranges)]
    total = "-" if book.total is None else book.total
    lines.append(line_of(total, book.sum))
    return "\n".join(lines)


def line_of(text, ends):
    """Return a line for a figure and a range."""
    return f"{text}: {with_hyphen(ends)}"


def with_hyphen(ends):
    """Return the ends of a range with a hyphen between them."""
    low, high = ends
    return f"{low}-{high}"
