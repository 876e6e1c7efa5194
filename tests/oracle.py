"""A second way to show numbers, with fractions, to hold the program's answers against.

It shares no code with the program: a rule is the tuple (units, decimals, rounding, carry, least).
"""

import math
import random
from fractions import Fraction

THOUSANDS = (("", 1), ("K", 1000), ("M", 1000000))
LONG = (("", 1), ("K", 10 ** 3), ("M", 10 ** 6), ("B", 10 ** 9), ("T", 10 ** 12), ("Q", 10 ** 18))
ROUNDINGS = ("down", "up", "near", "even")

# Units and the decimals that they allow.
SMALL = (
    ((("", 1),), (0, 1, 2, 3)),
    ((("", 1), ("a", 2)), (0,)),
    ((("", 1), ("A", 2), ("B", 6), ("C", 18)), (0,)),
    ((("", 1), ("A", 4), ("B", 12), ("C", 36), ("D", 180), ("E", 540)), (0,)),
    ((("", 1), ("a", 20), ("b", 60), ("c", 300)), (0, 1)),
    ((("x", 1), ("", 20), ("Xyz", 100)), (0, 1)),
    ((("", 1), ("H", 200), ("S", 600)), (0, 1, 2)),
)
LARGE = (
    ((("", 1), ("K", 1000)), (0, 1, 2)),
    (THOUSANDS, (0, 1, 2)),
    ((("", 1), ("k", 2000), ("m", 6000000), ("K", 18000000)), (0, 1, 2, 3)),
    ((("", 1), ("Ki", 2 ** 10), ("Mi", 2 ** 20), ("Gi", 2 ** 30), ("Ti", 2 ** 40), ("Pi", 2 ** 50)), (0,)),
    (LONG, (0, 1, 2)),
)
LEASTS = (1, 2, 3, 7, 10, 999, 1000)

# The figures of small numbers by rule, as far as they have been asked for.
KNOWN = {}


def rules(table, leasts):
    """Return all rules with these units and decimals and leasts."""
    return [(units, decimals, rounding, carry, least) for units, choice in table for decimals in choice
            for rounding in ROUNDINGS for carry in (False, True) for least in leasts]


def step_of(rule, place):
    return 1 if place == 0 else rule[0][place][1] // 10 ** rule[1]


def threshold_of(rule, place):
    return 0 if place == 0 else rule[0][place][1] * rule[4]


def rounded(quotient, rounding):
    if rounding == "down":
        return math.floor(quotient)
    if rounding == "up":
        return math.ceil(quotient)
    if rounding == "near":
        return math.floor(quotient + Fraction(1, 2))
    return round(quotient)


def placed(rule, number):
    units, _, rounding, carry, _ = rule
    place = max(k for k in range(len(units)) if threshold_of(rule, k) <= number)
    mark = rounded(Fraction(number, step_of(rule, place)), rounding)
    if carry and place < len(units) - 1 and mark * step_of(rule, place) >= threshold_of(rule, place + 1):
        return place + 1, rounded(Fraction(number, step_of(rule, place + 1)), rounding)
    return place, mark


def written(rule, place, mark):
    units, decimals = rule[:2]
    if place == 0 or decimals == 0:
        return f"{mark}{units[place][0]}"
    whole, part = divmod(mark, 10 ** decimals)
    return f"{whole}.{part:0{decimals}d}{units[place][0]}"


def shown(rule, number):
    return written(rule, *placed(rule, number))


def worth_of_shown(rule, number):
    place, mark = placed(rule, number)
    return mark * step_of(rule, place)


def texts(rule, last):
    """Return the list of the figures of all numbers from 0 to the last one."""
    known = KNOWN.setdefault(rule, [])
    while len(known) <= last:
        text = shown(rule, len(known))
        known.append(known[-1] if known and known[-1] == text else text)
    return known[:last + 1]


def runs(rule, last):
    """Return triples of a figure and its range, as seen by going through the numbers up to the last one.

    The run that goes on behind the last number is left out.
    """
    found = []
    for number, text in enumerate(texts(rule, last)):
        if found and found[-1][0] == text:
            found[-1][2] = number
        else:
            found.append([text, number, number])
    return [tuple(run) for run in found[:-1]]


def far_enough(*some):
    """Return a number behind all thresholds of some rules and behind some figures of their greatest units."""
    low = max(threshold_of(rule, place) for rule in some for place in range(len(rule[0])))
    return low + 12 * max(step_of(rule, len(rule[0]) - 1) for rule in some) + 20


def first_behind(low, high, holds):
    """Return the first integer from `low` to `high` for which something holds that goes on to hold, by halving."""
    while low < high:
        middle = (low + high) // 2
        low, high = (low, middle) if holds(middle) else (middle + 1, high)
    return low


def range_about(rule, number):
    """Return the range of the numbers that are shown like this one, since figures follow one another."""
    wanted = placed(rule, number)
    far = 1
    while placed(rule, number + far) == wanted:
        far *= 2
    low = first_behind(0, number, lambda other: placed(rule, other) >= wanted)
    high = first_behind(number, number + far, lambda other: placed(rule, other) > wanted) - 1
    return low, high


def first_seen(*some, holds):
    """Return the first number for which something holds, by going through all that are not too far, or None.

    `holds` gets the lists of the figures by the rules, and the number, behind which there is one more.
    """
    end, start = far_enough(*some), 0
    while start < end:
        stop = min(end, 2 * start + 50)
        shown_by = [texts(rule, stop) for rule in some]
        for number in range(start, stop):
            if holds(*shown_by, number):
                return number
        start = stop
    return None


def variants(rule):
    """Return all rules that are this one with one part changed, as far as there is such a ladder."""
    units, decimals, rounding, carry, least = rule
    found = [(units, decimals, other, carry, least) for other in ROUNDINGS]
    found += [(units, decimals, rounding, not carry, least)]
    found += [(units, decimals, rounding, carry, other) for other in (1, 2, 3, 4, 7)]
    found += [(units, other, rounding, carry, least) for other in range(4)]
    found += [(units[:-1], decimals, rounding, carry, least)]
    found += [(units + (("New", units[-1][1] * many),), decimals, rounding, carry, least) for many in (2, 3, 20)]
    for place, (name, size) in enumerate(units):
        found += [(units[:place] + ((other, by * size),) + units[place + 1:], decimals, rounding, carry, least)
                  for other, by in (("new", 1), (name, 2), (name, 3))]
    return [other for other in found if other != rule and is_rule(other)]


def small_variants(rule):
    """Return those of the variants of a rule for which it does not take long to go through the numbers."""
    return [other for other in variants(rule) if far_enough(rule, other) <= 3000]


def is_rule(rule):
    """Tell whether units and decimals, of which the names are good, go together."""
    sizes = [size for _, size in rule[0]]
    return (1 <= len(sizes) <= 6 and sizes[0] == 1 and sizes[-1] <= 10 ** 18
            and all(low < high and high % low == 0 for low, high in zip(sizes, sizes[1:]))
            and all(size % (2 * 10 ** rule[1]) == 0 for size in sizes[1:]))


def telling_numbers(rule):
    """Return numbers at, between and just beside marks and thresholds, and some others, up to 10 ** 18."""
    units = rule[0]
    middles = {0, 10 ** 18}
    for place in range(len(units)):
        step, low = step_of(rule, place), threshold_of(rule, place)
        for mark in (1, 2, 3, 8, 9, 10, 11, 98, 99, 100, 999, 1000, 1049, 9999, 10000, 99999):
            middles.add(mark * step)
            middles.add(mark * step + step // 2)
        for before in range(place + 1):
            other = step_of(rule, before)
            for many in range(4):
                middles.add(low - many * other)
                middles.add(low - many * other - other // 2)
                middles.add(low + many * other + other // 2)
    chance = random.Random(1)
    for digits in range(1, 19):
        middles.add(chance.randrange(10 ** digits))
    near = {middle + beside for middle in middles for beside in (-2, -1, 0, 1, 2)}
    return sorted(number for number in near if 0 <= number <= 10 ** 18)
