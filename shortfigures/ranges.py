"""The ranges of numbers that figures stand for, and the order of the figures.

Here `unit` is the place of a unit in its ladder, and `place` that of a figure among all that are shown.
"""

from shortfigures.errors import InvalidNumber, InvalidPlace, NeverShown
from shortfigures.kinds import is_within
from shortfigures.ladders import check_ladder, check_number, parts_of_figure
from shortfigures.marks import figure_of, placed, written
from shortfigures.stretches import first_mark, last_mark, numbers_shown

MOST_PLACE = 10 ** 9


def range_of(ladder, text):
    """Return the range of all numbers that are shown by a figure, or None if it is not shown."""
    check_ladder(ladder)
    unit, mark = parts_of_figure(ladder, text)
    return numbers_shown(ladder, unit, mark)


def hidden(ladder, number):
    """Return how much smaller and how much greater a number can be and still be shown as it is."""
    check_ladder(ladder)
    check_number(number)
    unit, mark = placed(ladder, number)
    low, high = numbers_shown(ladder, unit, mark)
    return number - low, high - number


def next_figure(ladder, text):
    """Return the figure of the first number behind the range of a figure."""
    _, high = range_of_shown(ladder, text)
    return figure_of(ladder, high + 1)


def previous_figure(ladder, text):
    """Return the figure of the last number before the range of a figure, or None if there is none."""
    low, _ = range_of_shown(ladder, text)
    if low == 0:
        return None
    return figure_of(ladder, low - 1)


def forms(ladder, low, high):
    """Return how many different figures are shown for the numbers from `low` to `high`."""
    check_ladder(ladder)
    check_number(low)
    check_number(high)
    if high < low:
        raise InvalidNumber(high)
    return figures_before(ladder, high) - figures_before(ladder, low) + 1


def figure_at(ladder, place):
    """Return the figure with this place among all figures that are shown."""
    check_ladder(ladder)
    if not is_within(place, 0, MOST_PLACE):
        raise InvalidPlace(place)
    firsts = [figures_before_unit(ladder, unit) for unit in range(len(ladder.units))]
    unit = len([first for first in firsts if first <= place]) - 1
    return written(ladder, unit, first_mark(ladder, unit) + place - firsts[unit])


def place_of(ladder, text):
    """Return the place of a figure among all figures that are shown."""
    low, _ = range_of_shown(ladder, text)
    return figures_before(ladder, low)


def widest(ladder, number):
    """Return the first one of the ranges with the most numbers, among the figures of 0 to this number."""
    check_ladder(ladder)
    check_number(number)
    last_unit, last = placed(ladder, number)
    found = []
    for unit in range(last_unit):
        found.extend(telling_ranges(ladder, unit, last_mark(ladder, unit)))
    found.extend(telling_ranges(ladder, last_unit, last))
    return max(found, key=many_numbers)


def telling_ranges(ladder, unit, last):
    """Return ranges of a unit with the first one of the widest ones up to the mark `last` among them."""
    first = first_mark(ladder, unit)
    # Apart from the first and the last mark, ranges that are two marks apart have as many numbers.
    return [numbers_shown(ladder, unit, mark) for mark in (first, first + 1, first + 2, last) if mark <= last]


def many_numbers(ends):
    """Return how many numbers there are in a range."""
    low, high = ends
    return high - low + 1


def range_of_shown(ladder, text):
    """Return the range of a figure. Raise NeverShown if it is not shown."""
    found = range_of(ladder, text)
    if found is None:
        raise NeverShown(text)
    return found


def figures_before(ladder, number):
    """Return how many figures are shown before the figure of an integer from 0 on."""
    unit, mark = placed(ladder, number)
    return figures_before_unit(ladder, unit) + mark - first_mark(ladder, unit)


def figures_before_unit(ladder, unit):
    """Return how many figures are shown with the units before this one."""
    return sum([last_mark(ladder, other) - first_mark(ladder, other) + 1 for other in range(unit)])
