"""Ladders that have their units in common, and least 1.

A triple consists of the decimals, the rounding and the carry of such a ladder.
"""

from shortfigures.alike import first_unlike
from shortfigures.errors import InputError, InvalidSeen
from shortfigures.kinds import is_within
from shortfigures.ladders import Ladder
from shortfigures.limits import MOST_DECIMALS, MOST_NUMBER
from shortfigures.marks import ROUNDINGS, figure_of
from shortfigures.units import check_units

MOST_SEEN = 12
MOST_TRIPLES = 8


def fitting(units, seen):
    """Return all triples whose ladders show each number by the text that was seen with it."""
    check_units(units)
    check_seen(seen)
    triples = [(decimals, rounding, carry) for decimals in range(MOST_DECIMALS + 1)
               for rounding in ROUNDINGS for carry in (False, True)]
    return tuple([triple for triple in triples if fits(ladder_with(units, triple), seen)])


def parting(units, triples):
    """Return the smallest number that is not shown alike by the ladders with these triples, or None."""
    check_units(units)
    check_triples(units, triples)
    first, *others = [ladder_with(units, triple) for triple in triples]
    # Where two of the ladders differ, one of them differs from the first one.
    found = [first_unlike(first, other) for other in others]
    return min([number for number in found if number is not None], default=None)


def ladder_with(units, triple):
    """Return the ladder with these units, which are good, and this triple, or None if it cannot be made."""
    decimals, rounding, carry = triple
    try:
        return Ladder(units, decimals, rounding, carry=carry)
    except InputError:
        return None


def fits(ladder, seen):
    """Tell whether there is a ladder and it shows each number by the text that was seen with it."""
    return ladder is not None and all([figure_of(ladder, number) == text for number, text in seen])


def check_seen(seen):
    """Raise InvalidSeen unless this is a tuple of at most 12 pairs of a number and a string."""
    if not isinstance(seen, tuple) or len(seen) > MOST_SEEN:
        raise InvalidSeen(None)
    for place, pair in enumerate(seen):
        if not is_seen(pair):
            raise InvalidSeen(place)


def is_seen(pair):
    """Tell whether a value is a pair of a number and a string."""
    if not isinstance(pair, tuple) or len(pair) != 2:
        return False
    number, text = pair
    return is_within(number, 0, MOST_NUMBER) and isinstance(text, str)


def check_triples(units, triples):
    """Raise InvalidSeen unless this is a tuple of 1 to 8 triples with which ladders can be made."""
    if not isinstance(triples, tuple) or not 1 <= len(triples) <= MOST_TRIPLES:
        raise InvalidSeen(None)
    for place, triple in enumerate(triples):
        if not isinstance(triple, tuple) or len(triple) != 3 or ladder_with(units, triple) is None:
            raise InvalidSeen(place)
