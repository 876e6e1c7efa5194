"""The units of a ladder, before there is a ladder."""

from shortfigures.errors import InvalidUnits
from shortfigures.kinds import is_within
from shortfigures.limits import MOST_NUMBER, MOST_UNITS

LETTERS = "ABCDEFGHIJKLMNOPQRSTUVWXYZabcdefghijklmnopqrstuvwxyz"
MOST_LETTERS = 3


def check_units(units):
    """Raise InvalidUnits unless `units` is a tuple of units that can form a ladder."""
    if not isinstance(units, tuple) or not 1 <= len(units) <= MOST_UNITS:
        raise InvalidUnits(None)
    for place, unit in enumerate(units):
        if not is_unit(unit) or not fits_behind(units[:place], unit):
            raise InvalidUnits(place)


def is_unit(unit):
    """Tell whether a value is a unit by itself."""
    if not isinstance(unit, tuple) or len(unit) != 2:
        return False
    return is_unit_name(unit[0]) and is_within(unit[1], 1, MOST_NUMBER)


def is_unit_name(name):
    """Tell whether a value is a string of at most three letters, which may be empty."""
    return isinstance(name, str) and len(name) <= MOST_LETTERS and name.strip(LETTERS) == ""


def fits_behind(before, unit):
    """Tell whether a unit may stand behind these units, all of which are good."""
    name, size = unit
    if not before:
        return size == 1
    last_size = before[-1][1]
    return size > last_size and size % last_size == 0 and name not in [other[0] for other in before]
