"""How numbers can have changed of which only the figures are known."""

from shortfigures.ladders import check_ladder, parts_of_figure
from shortfigures.texts import check_texts, ranges_of


def difference(ladder, text, other_text):
    """Return the range of how much greater the second number can be than the first one, or None."""
    check_ladder(ladder)
    parts_of_figure(ladder, text)
    parts_of_figure(ladder, other_text)
    ranges = ranges_of(ladder, (text, other_text))
    if ranges is None:
        return None
    (low, high), (other_low, other_high) = ranges
    return other_low - high, other_high - low


def compared(ladder, text, other_text):
    """Tell by a word how the second number compares to the first one, or return None."""
    ends = difference(ladder, text, other_text)
    if ends is None:
        return None
    least, most = ends
    if least > 0:
        return "more"
    if most < 0:
        return "less"
    if least == most:
        return "equal"
    return "open"


def rising(ladder, texts):
    """Return the ranges of the numbers if it is known that they rise, or None."""
    ranges = checked_ranges(ladder, texts)
    if ranges is None:
        return None
    return risen(ranges)


def least_rising(ladder, texts):
    """Return the smallest numbers for these figures that rise, or None."""
    ranges = rising(ladder, texts)
    if ranges is None:
        return None
    return tuple([low for low, _ in ranges])


def always_rise(ladder, texts):
    """Tell whether the numbers rise in any case, or return None."""
    ranges = checked_ranges(ladder, texts)
    if ranges is None:
        return None
    return all([ends[1] <= after[0] for ends, after in zip(ranges, ranges[1:])])


def first_fall(ladder, texts):
    """Return the first place where a number is smaller than the one before it in any case, or -1, or None."""
    ranges = checked_ranges(ladder, texts)
    if ranges is None:
        return None
    for place in range(1, len(ranges)):
        if ranges[place][1] < ranges[place - 1][0]:
            return place
    return -1


def checked_ranges(ladder, texts):
    """Return the list of the ranges of figures, or None if one is not shown. Raise NotALadder or InvalidTexts."""
    check_ladder(ladder)
    check_texts(ladder, texts)
    return ranges_of(ladder, texts)


def risen(ranges):
    """Return the parts of ranges that are left if the numbers in them rise, or None if they cannot rise."""
    # Each number is at least all lows before it, and at most all highs behind it.
    ends = [(max([low for low, _ in ranges[:place + 1]]), min([high for _, high in ranges[place:]]))
            for place in range(len(ranges))]
    if any([low > high for low, high in ends]):
        return None
    return tuple(ends)
