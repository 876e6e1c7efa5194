"""What is known of a number of which several figures have been seen."""

from shortfigures.errors import InvalidSights
from shortfigures.ladders import Ladder
from shortfigures.limits import MOST_SIGHTS
from shortfigures.marks import parts_of
from shortfigures.ranges import range_of


def numbers_of(sights):
    """Return the range of all numbers that are shown by each ladder by its figure, or None."""
    check_sights(sights)
    return common_range(sights)


def only_number(sights):
    """Return the number that is shown by each ladder by its figure, or None if there is not just one."""
    ends = numbers_of(sights)
    if ends is None or ends[0] != ends[1]:
        return None
    return ends[0]


def needed(sights):
    """Return the places of all sights without which, one at a time, the range would be another one."""
    check_sights(sights)
    if len(sights) == 1:
        return (0,)
    ends = common_range(sights)
    return tuple([place for place in range(len(sights))
                  if common_range(sights[:place] + sights[place + 1:]) != ends])


def common_range(sights):
    """Return the range that is common to the figures of one or more sights, which are good, or None."""
    found = [range_of(ladder, text) for ladder, text in sights]
    if None in found:
        return None
    low = max([ends[0] for ends in found])
    high = min([ends[1] for ends in found])
    if low > high:
        return None
    return low, high


def check_sights(sights):
    """Raise InvalidSights unless this is a tuple of 1 to 4 sights."""
    if not isinstance(sights, tuple) or not 1 <= len(sights) <= MOST_SIGHTS:
        raise InvalidSights(None)
    for place, sight in enumerate(sights):
        if not is_sight(sight):
            raise InvalidSights(place)


def is_sight(sight):
    """Tell whether a value is a pair of a ladder and one of its figures."""
    if not isinstance(sight, tuple) or len(sight) != 2:
        return False
    ladder, text = sight
    return isinstance(ladder, Ladder) and parts_of(ladder, text) is not None
