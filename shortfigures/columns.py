"""What the figures of a column tell together with the figure of their sum."""

from shortfigures.ladders import check_ladder, parts_of_figure
from shortfigures.marks import figure_of
from shortfigures.ranges import figures_before
from shortfigures.texts import check_texts, ranges_of


def sum_range(ladder, texts):
    """Return the range of the sums that are possible, or None if a row is not shown."""
    check_ladder(ladder)
    check_texts(ladder, texts)
    ranges = ranges_of(ladder, texts)
    if ranges is None:
        return None
    return added_up(ranges)


def totals(ladder, texts):
    """Return the first figure, the last figure and the number of all figures of the possible sums, or None."""
    sums = sum_range(ladder, texts)
    if sums is None:
        return None
    low, high = sums
    many = figures_before(ladder, high) - figures_before(ladder, low) + 1
    return figure_of(ladder, low), figure_of(ladder, high), many


def sure_total(ladder, texts):
    """Return the figure of the sum if there is just one, otherwise None."""
    found = totals(ladder, texts)
    if found is None or found[2] > 1:
        return None
    return found[0]


def column(ladder, texts, total):
    """Return the ranges that the rows can have and that of the sums, if the sum is shown by the total, or None."""
    check_column(ladder, texts, total)
    return told_column(ladder, texts, total)


def numbers_for(ladder, texts, total):
    """Return numbers for the rows whose sum is shown by the total, or None if there are none."""
    found = column(ladder, texts, total)
    if found is None:
        return None
    ranges, sums = found
    missing = sums[0] - added_up(ranges)[0]
    numbers = []
    for low, high in ranges:
        more = min(missing, high - low)
        numbers.append(low + more)
        missing -= more
    return tuple(numbers)


def rows_for(ladder, texts, total):
    """Return the first and the last figure that one more row can have so that the total is possible, or None."""
    check_column(ladder, texts, total)
    ranges, wanted = ranges_of(ladder, texts), ranges_of(ladder, (total,))
    if ranges is None or wanted is None:
        return None
    low, high = added_up(ranges)
    total_low, total_high = wanted[0]
    if total_high < low:
        return None
    return figure_of(ladder, max(0, total_low - high)), figure_of(ladder, total_high - low)


def check_column(ladder, texts, total):
    """Raise NotALadder, InvalidTexts or InvalidFigure unless this is a column of a ladder."""
    check_ladder(ladder)
    check_texts(ladder, texts)
    parts_of_figure(ladder, total)


def told_column(ladder, texts, total):
    """Return what `column` returns, for a column that is good. The total can be None: then it is not known."""
    ranges = ranges_of(ladder, texts)
    if ranges is None:
        return None
    if total is None:
        return tuple(ranges), added_up(ranges)
    wanted = ranges_of(ladder, (total,))
    if wanted is None:
        return None
    return narrowed(ranges, wanted[0])


def narrowed(ranges, wanted):
    """Return the parts of ranges that are left if the sum lies in the range `wanted`, and that of the sums, or None."""
    low, high = added_up(ranges)
    sum_low, sum_high = max(low, wanted[0]), min(high, wanted[1])
    if sum_low > sum_high:
        return None
    # Beside a row from `own_low` to `own_high`, the other rows together give `low - own_low` to `high - own_high`.
    left = [(max(own_low, sum_low - (high - own_high)), min(own_high, sum_high - (low - own_low)))
            for own_low, own_high in ranges]
    return tuple(left), (sum_low, sum_high)


def added_up(ranges):
    """Return the range of the sums of numbers from these ranges."""
    return sum([low for low, _ in ranges]), sum([high for _, high in ranges])
