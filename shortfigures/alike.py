"""Whether two ladders always show the same, and whether a ladder is steady."""

from shortfigures.ladders import check_ladder
from shortfigures.marks import figure_of
from shortfigures.stretches import last_mark, next_changes, numbers_shown, start_of, starts_of

# As long as both ladders stay with one unit and show the same, their marks are equal. How much later
# than the one ladder the other one changes to a mark differs by the same amount from each mark to the
# next but one. So if they change together to three marks in a row, they do so to all further ones.
ENOUGH_CHANGES = 3


def first_unlike(ladder, other):
    """Return the smallest number that is shown differently by two ladders, or None if they are alike."""
    check_ladder(ladder)
    check_ladder(other)
    return min([number for number in possible_first_ones(ladder, other)
                if figure_of(ladder, number) != figure_of(other, number)], default=None)


def are_alike(ladder, other):
    """Tell whether two ladders show the same text for every number."""
    return first_unlike(ladder, other) is None


def first_drift(ladder):
    """Return the smallest number whose figure has a worth that is shown otherwise, or None."""
    check_ladder(ladder)
    for place in range(len(ladder.units) - 1):
        mark = last_mark(ladder, place)
        # A worth is shown by its own figure, unless it lies behind the end of its unit.
        if mark * ladder.steps[place] >= start_of(ladder, place + 1):
            low, _ = numbers_shown(ladder, place, mark)
            return low
    return None


def is_steady(ladder):
    """Tell whether the worth of each number's figure is shown by this same figure."""
    return first_drift(ladder) is None


def possible_first_ones(ladder, other):
    """Return numbers with the first one among them that is shown differently, if there is one."""
    numbers = []
    for start in starts_of(ladder) + starts_of(other):
        numbers.append(start)
        numbers.extend(next_changes(ladder, start, ENOUGH_CHANGES))
        numbers.extend(next_changes(other, start, ENOUGH_CHANGES))
    return numbers
