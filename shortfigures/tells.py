"""Whether what one ladder shows determines what another one shows."""

from shortfigures.ladders import check_ladder
from shortfigures.marks import figure_of
from shortfigures.ranges import range_of
from shortfigures.stretches import next_changes, starts_of

# As long as both ladders stay with one unit, every second change of the other one comes two of its
# steps later. Divided by two steps of the ladder, all changes of the ladder have one of two rests. So
# if three changes of the other one, each time the next but one, are changes of the ladder, too, their
# rests are equal or take turns, and it goes on like this. This holds for the changes between, as well.
ENOUGH_CHANGES = 6


def first_untold(ladder, other):
    """Return the first two neighbours that are shown alike by the ladder, but not so by the other one."""
    check_ladder(ladder)
    check_ladder(other)
    untold = [number for number in possible_changes(ladder, other)
              if is_change(other, number) and not is_change(ladder, number)]
    if not untold:
        return None
    return min(untold) - 1, min(untold)


def tells(ladder, other):
    """Tell whether any two numbers that the ladder shows alike are shown alike by the other one."""
    return first_untold(ladder, other) is None


def figures_in(ladder, text, other):
    """Return the first and the last figure that the other ladder shows in the range of a figure, or None."""
    ends = range_of(ladder, text)
    check_ladder(other)
    if ends is None:
        return None
    low, high = ends
    return figure_of(other, low), figure_of(other, high)


def is_change(ladder, number):
    """Tell whether an integer from 0 on is shown otherwise than the one before it, if there is one."""
    return number > 0 and figure_of(ladder, number) != figure_of(ladder, number - 1)


def possible_changes(ladder, other):
    """Return numbers with the first change of the other ladder among them that the ladder hides."""
    numbers = []
    for start in starts_of(ladder) + starts_of(other):
        numbers.append(start)
        numbers.extend(next_changes(other, start, ENOUGH_CHANGES))
    return numbers
