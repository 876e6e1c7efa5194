"""Ladders of units, and the figures that they show."""

from shortfigures.errors import (
    InvalidCarry, InvalidDecimals, InvalidFigure, InvalidLeast, InvalidNumber, InvalidRounding, NotALadder)
from shortfigures.kinds import is_within
from shortfigures.limits import MOST_DECIMALS, MOST_LEAST, MOST_NUMBER
from shortfigures.marks import ROUNDINGS, figure_of, is_reached, parts_of
from shortfigures.units import check_units

# How many parts a size is divided into, for each number of decimals.
PARTS = (1, 10, 100, 1000)


class Ladder:
    """A rule for showing numbers short, with units. It does not change."""

    def __init__(self, units, decimals, rounding, *, carry=True, least=1):
        check_units(units)
        check_decimals(units, decimals)
        check_rounding(rounding)
        if not isinstance(carry, bool):
            raise InvalidCarry(carry)
        if not is_within(least, 1, MOST_LEAST):
            raise InvalidLeast(least)
        self.units = units
        self.decimals = decimals
        self.rounding = rounding
        self.carry = carry
        self.least = least
        self.told = (units, decimals, rounding, carry, least)
        self.steps = (1,) + tuple([unit[1] // PARTS[decimals] for unit in units[1:]])
        self.thresholds = (0,) + tuple([unit[1] * least for unit in units[1:]])

    def __len__(self):
        return len(self.units)

    def __eq__(self, other):
        return isinstance(other, Ladder) and self.told == other.told

    def __repr__(self):
        return f"Ladder({len(self.units)} units, {self.decimals} decimals, {self.rounding})"


def show(ladder, number):
    """Return the figure of a number."""
    check_ladder(ladder)
    check_number(number)
    return figure_of(ladder, number)


def worth(ladder, text):
    """Return the worth of a figure, which need not be shown."""
    check_ladder(ladder)
    place, mark = parts_of_figure(ladder, text)
    return mark * ladder.steps[place]


def is_shown(ladder, text):
    """Tell whether the ladder shows a figure for some integer from 0 on."""
    check_ladder(ladder)
    place, mark = parts_of_figure(ladder, text)
    return is_reached(ladder, place, mark)


def check_ladder(ladder):
    """Raise NotALadder unless this is a ladder."""
    if not isinstance(ladder, Ladder):
        raise NotALadder(ladder)


def check_number(number):
    """Raise InvalidNumber unless this is a number."""
    if not is_within(number, 0, MOST_NUMBER):
        raise InvalidNumber(number)


def check_decimals(units, decimals):
    """Raise InvalidDecimals unless these units, which are good, can have so many decimals."""
    if not is_within(decimals, 0, MOST_DECIMALS):
        raise InvalidDecimals(decimals)
    # Steps have to be even, so that there is a number exactly between two marks.
    for unit in units[1:]:
        if unit[1] % (2 * PARTS[decimals]) != 0:
            raise InvalidDecimals(decimals)


def check_rounding(rounding):
    """Raise InvalidRounding unless this is one of the four words."""
    if not isinstance(rounding, str) or rounding not in ROUNDINGS:
        raise InvalidRounding(rounding)


def parts_of_figure(ladder, text):
    """Return the place of the unit and the mark of a figure. Raise InvalidFigure if it is none."""
    parts = parts_of(ladder, text)
    if parts is None:
        raise InvalidFigure(text)
    return parts
