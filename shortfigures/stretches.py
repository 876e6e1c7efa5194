"""Which numbers are shown with a unit, and with a unit and a mark.

All numbers that are shown with one unit follow one another, carried ones included. They are the
stretch of the unit, and each of them is divided by the step of the unit and rounded. Each stretch
begins with the mark that stands for the threshold of its unit, and leaves out no mark up to its last
one. Numbers have no end here.
"""

from shortfigures.marks import placed, rounded


def first_rounded(mark, step, rounding):
    """Return the smallest integer from 0 on that is rounded to this mark, if all are divided by this step."""
    if mark == 0 or step == 1 or rounding == "down":
        return mark * step
    if rounding == "up":
        return (mark - 1) * step + 1
    middle = mark * step - step // 2
    # Exactly between two marks, `even` takes the one below if this one is odd.
    if rounding == "even" and mark % 2 == 1:
        return middle + 1
    return middle


def start_of(ladder, place):
    """Return the first number that is shown with the unit at this place."""
    threshold = ladder.thresholds[place]
    if place == 0 or not ladder.carry:
        return threshold
    step = ladder.steps[place - 1]
    return first_rounded(threshold // step, step, ladder.rounding)


def starts_of(ladder):
    """Return the first numbers that are shown with each unit."""
    return [start_of(ladder, place) for place in range(len(ladder.units))]


def numbers_shown(ladder, place, mark):
    """Return the range of the numbers that are shown with this unit and this mark, or None."""
    step = ladder.steps[place]
    low = max(first_rounded(mark, step, ladder.rounding), start_of(ladder, place))
    high = first_rounded(mark + 1, step, ladder.rounding) - 1
    if place + 1 < len(ladder.units):
        high = min(high, start_of(ladder, place + 1) - 1)
    if low > high:
        return None
    return low, high


def first_mark(ladder, place):
    """Return the smallest mark that is shown with the unit at this place."""
    return ladder.thresholds[place] // ladder.steps[place]


def last_mark(ladder, place):
    """Return the greatest mark that is shown with the unit at this place, which is not the last one."""
    return rounded(start_of(ladder, place + 1) - 1, ladder.steps[place], ladder.rounding)


def next_changes(ladder, number, many):
    """Return the first so many numbers behind this one whose marks are new, as if its unit had no end."""
    place, mark = placed(ladder, number)
    return [first_rounded(mark + more, ladder.steps[place], ladder.rounding) for more in range(1, many + 1)]
