"""A console, which answers lines with a book."""

from shortfigures.books import Book
from shortfigures.errors import InputError, InvalidLine, SizeError, StateError
from shortfigures.limits import MOST_NUMBER
from shortfigures.marks import figure_of
from shortfigures.reports import with_hyphen

REFUSED = "refused"
MOST_LINE_DIGITS = 20


class Console:
    """It answers lines with a book of its own."""

    def __init__(self, ladder):
        self.book = Book(ladder)

    def say(self, line):
        """Return the answer to a line."""
        words = words_of(line)
        if words is None:
            raise InvalidLine(line)
        action = ACTIONS[words[0]]
        return action(self.book, words)


def answer_deed(book, words):
    """Do a deed, or take one back, and return the range of the sums."""
    try:
        do_deed(book, words)
    except (InputError, StateError, SizeError):
        return REFUSED
    return with_hyphen(book.sum)


def do_deed(book, words):
    """Do the deed of a line, or take one back."""
    word = words[0]
    if word == "add":
        book.add(words[1])
    elif word == "change":
        book.change(int(words[1]), words[2])
    elif word == "remove":
        book.remove(int(words[1]))
    elif word == "expect":
        book.expect(words[1])
    elif word == "forget":
        book.expect(None)
    else:
        book.undo()


def answer_rows(book, _):
    """Return the rows of a book."""
    if len(book) == 0:
        return "none"
    return " ".join(book.texts)


def answer_range(book, words):
    """Return the range of a row."""
    place = int(words[1])
    if place >= len(book):
        return REFUSED
    return with_hyphen(book.ranges[place])


def answer_show(book, words):
    """Return the figure of a number."""
    number = int(words[1])
    if number > MOST_NUMBER:
        return REFUSED
    return figure_of(book.ladder, number)


# What stands behind the first word of a line, as in DOC.md, and what answers the line.
FORMS = {
    "add": ("WORD",), "change": ("N", "WORD"), "remove": ("N",), "expect": ("WORD",), "forget": (), "undo": (),
    "rows": (), "range": ("N",), "show": ("N",),
}
ACTIONS = {
    "add": answer_deed, "change": answer_deed, "remove": answer_deed, "expect": answer_deed, "forget": answer_deed,
    "undo": answer_deed, "rows": answer_rows, "range": answer_range, "show": answer_show,
}


def words_of(line):
    """Return the words of a line, or None if it has none of the forms."""
    if not isinstance(line, str):
        return None
    words = line.split(" ")
    if words[0] not in FORMS or len(words) != 1 + len(FORMS[words[0]]):
        return None
    if not all([stands_for(part, form) for part, form in zip(words[1:], FORMS[words[0]])]):
        return None
    return words


def stands_for(part, form):
    """Tell whether a part of a line, which contains no space, is a number or a word, as asked."""
    if form == "N":
        return is_count(part)
    return part != ""


def is_count(part):
    """Tell whether a string is a number of at most 20 digits without leading zeros."""
    if not part.isascii() or not part.isdigit() or len(part) > MOST_LINE_DIGITS:
        return False
    return part == "0" or not part.startswith("0")
