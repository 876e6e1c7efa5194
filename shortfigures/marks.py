"""How numbers become marks, and marks texts, and back.

A mark always comes with the place of its unit, counted from 0. Numbers have no end here.
"""

from shortfigures.limits import MOST_DIGITS
from shortfigures.units import LETTERS

ROUNDINGS = ("down", "up", "near", "even")


def placed(ladder, number):
    """Return the place of the unit and the mark by which an integer from 0 on is shown."""
    place = len([low for low in ladder.thresholds if low <= number]) - 1
    mark = rounded(number, ladder.steps[place], ladder.rounding)
    if not is_carried(ladder, place, mark):
        return place, mark
    return place + 1, rounded(number, ladder.steps[place + 1], ladder.rounding)


def figure_of(ladder, number):
    """Return the figure by which an integer from 0 on is shown."""
    place, mark = placed(ladder, number)
    return written(ladder, place, mark)


def rounded(number, step, rounding):
    """Return the quotient of a number and a step, rounded to an integer."""
    below, rest = divmod(number, step)
    if goes_up(below, rest, step, rounding):
        return below + 1
    return below


def goes_up(below, rest, step, rounding):
    """Tell whether a quotient is rounded to the integer above it, and not to the one below it."""
    if rounding == "up":
        return rest > 0
    if rounding == "near":
        return 2 * rest >= step
    if rounding == "even":
        return 2 * rest > step or (2 * rest == step and below % 2 == 1)
    return False


def is_carried(ladder, place, mark):
    """Tell whether a number that was rounded to this mark is shown with the next unit instead."""
    if not ladder.carry or place + 1 == len(ladder.units):
        return False
    return mark * ladder.steps[place] >= ladder.thresholds[place + 1]


def is_reached(ladder, place, mark):
    """Tell whether some integer from 0 on is shown with this unit and this mark."""
    number = mark * ladder.steps[place]
    # Within its unit, a worth is shown by its own figure. Behind the end of its unit, a figure
    # is at best shown for the very last number there, if that one is rounded up and not carried.
    if place + 1 < len(ladder.units):
        number = min(number, ladder.thresholds[place + 1] - 1)
    return placed(ladder, number) == (place, mark)


def written(ladder, place, mark):
    """Return the figure for a unit and a mark."""
    name = ladder.units[place][0]
    digits = str(mark)
    if place == 0 or ladder.decimals == 0:
        return digits + name
    digits = digits.zfill(ladder.decimals + 1)
    return digits[:-ladder.decimals] + "." + digits[-ladder.decimals:] + name


def parts_of(ladder, text):
    """Return the place of the unit and the mark of a figure, or None if `text` is not a figure."""
    if not isinstance(text, str):
        return None
    ahead = text.rstrip(LETTERS)
    place = place_of_unit(ladder, text[len(ahead):])
    digits = ahead.replace(".", "")
    if place is None or not is_mark(digits):
        return None
    mark = int(digits)
    # Points in wrong places and zeros ahead have been overlooked so far.
    if written(ladder, place, mark) != text:
        return None
    return place, mark


def place_of_unit(ladder, name):
    """Return the place of the unit with this name, or None if there is none."""
    names = [unit[0] for unit in ladder.units]
    if name not in names:
        return None
    return names.index(name)


def is_mark(digits):
    """Tell whether a string consists of as many digits as a mark may have."""
    return digits.isascii() and digits.isdigit() and len(digits) <= MOST_DIGITS
