"""Claims that are true, with papers that show them to `holds`."""

from shortfigures.alike import first_drift, first_unlike
from shortfigures.columns import numbers_for
from shortfigures.tells import first_untold


def certify_alike(ladder, other):
    """Return the claim that two ladders are alike, or that they are not, and a paper that shows it."""
    number = first_unlike(ladder, other)
    if number is None:
        return ("alike", ladder.told, other.told), ()
    return ("unlike", ladder.told, other.told), number


def certify_steady(ladder):
    """Return the claim that a ladder is steady, or that it is not, and a paper that shows it."""
    number = first_drift(ladder)
    if number is None:
        return ("steady", ladder.told), ()
    return ("drifts", ladder.told), number


def certify_tells(ladder, other):
    """Return the claim that a ladder tells another one, or that it does not, and a paper that shows it."""
    numbers = first_untold(ladder, other)
    if numbers is None:
        return ("tells", ladder.told, other.told), ()
    return ("hides", ladder.told, other.told), numbers


def certify_column(ladder, texts, total):
    """Return the claim that a column is possible, or that it is not, and a paper that shows it."""
    numbers = numbers_for(ladder, texts, total)
    if numbers is None:
        return ("impossible", ladder.told, texts, total), ()
    return ("possible", ladder.told, texts, total), numbers
