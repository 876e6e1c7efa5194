"""A second way to show numbers, with fractions, to hold the program's answers against.

It shares no code with the program: a rule is the tuple (units, decimals, rounding, carry, least).
"""

import math
import random
from fractions import Fraction

THOUSANDS = (("", 1), ("K", 1000), ("M", 1000000))
LONG = (("", 1), ("K", 10 ** 3), ("M", 10 ** 6), ("B", 10 ** 9), ("T", 10 ** 12), ("Q", 10 ** 18))
ROUNDINGS = ("down", "up", "near", "even")

# Units and the decimals that they allow.
SMALL = (
    ((("", 1),), (0, 1, 2, 3)),
    ((("", 1), ("a", 2)), (0,)),
    ((("", 1), ("A", 2), ("B", 6), ("C", 18)), (0,)),
    ((("", 1), ("A", 4), ("B", 12), ("C", 36), ("D", 180), ("E", 540)), (0,)),
    ((("", 1), ("a", 20), ("b", 60), ("c", 300)), (0, 1)),
    ((("x", 1), ("", 20), ("Xyz", 100)), (0, 1)),
    ((("", 1), ("H", 200), ("S", 600)), (0, 1, 2)),
)
LARGE = (
    ((("", 1), ("K", 1000)), (0, 1, 2)),
    (THOUSANDS, (0, 1, 2)),
    ((("", 1), ("k", 2000), ("m", 6000000), ("K", 18000000)), (0, 1, 2, 3)),
    ((("", 1), ("Ki", 2 ** 10), ("Mi", 2 ** 20), ("Gi", 2 ** 30), ("Ti", 2 ** 40), ("Pi", 2 ** 50)), (0,)),
    (LONG, (0, 1, 2)),
)
LEASTS = (1, 2, 3, 7, 10, 999, 1000)


def rules(table, leasts):
    """Return all rules with these units and decimals and leasts."""
    return [(units, decimals, rounding, carry, least) for units, choice in table for decimals in choice
            for rounding in ROUNDINGS for carry in (False, True) for least in leasts]


def step_of(rule, place):
    return 1 if place == 0 else rule[0][place][1] // 10 ** rule[1]


def threshold_of(rule, place):
    return 0 if place == 0 else rule[0][place][1] * rule[4]


def rounded(quotient, rounding):
    if rounding == "down":
        return math.floor(quotient)
    if rounding == "up":
        return math.ceil(quotient)
    if rounding == "near":
        return math.floor(quotient + Fraction(1, 2))
    return round(quotient)


def placed(rule, number):
    units, _, rounding, carry, _ = rule
    place = max(k for k in range(len(units)) if threshold_of(rule, k) <= number)
    mark = rounded(Fraction(number, step_of(rule, place)), rounding)
    if carry and place < len(units) - 1 and mark * step_of(rule, place) >= threshold_of(rule, place + 1):
        return place + 1, rounded(Fraction(number, step_of(rule, place + 1)), rounding)
    return place, mark


def written(rule, place, mark):
    units, decimals = rule[:2]
    if place == 0 or decimals == 0:
        return f"{mark}{units[place][0]}"
    whole, part = divmod(mark, 10 ** decimals)
    return f"{whole}.{part:0{decimals}d}{units[place][0]}"


def shown(rule, number):
    return written(rule, *placed(rule, number))


def telling_numbers(rule):
    """Return numbers at, between and just beside marks and thresholds, and some others, up to 10 ** 18."""
    units = rule[0]
    middles = {0, 10 ** 18}
    for place in range(len(units)):
        step, low = step_of(rule, place), threshold_of(rule, place)
        for mark in (1, 2, 3, 8, 9, 10, 11, 98, 99, 100, 999, 1000, 1049, 9999, 10000, 99999):
            middles.add(mark * step)
            middles.add(mark * step + step // 2)
        for before in range(place + 1):
            other = step_of(rule, before)
            for many in range(4):
                middles.add(low - many * other)
                middles.add(low - many * other - other // 2)
                middles.add(low + many * other + other // 2)
    chance = random.Random(1)
    for digits in range(1, 19):
        middles.add(chance.randrange(10 ** digits))
    near = {middle + beside for middle in middles for beside in (-2, -1, 0, 1, 2)}
    return sorted(number for number in near if 0 <= number <= 10 ** 18)
