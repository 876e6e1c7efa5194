"""How numbers can have changed, beside going through all numbers of small figures."""

import itertools
import math
import random
import unittest

from shortfigures.changes import always_rise, compared, difference, first_fall, least_rising, rising
from shortfigures.errors import InvalidFigure, InvalidTexts, NotALadder
from shortfigures.ladders import Ladder
from tests.oracle import LARGE, LONG, ROUNDINGS, SMALL, THOUSANDS, range_about, rules, runs, shown, telling_numbers
from tests.test_show import made
from tests.values import NO_FIGURES, NO_LADDERS, UNSHOWN, ErrorCase

NEAR = Ladder(THOUSANDS, 1, "near")
ONE = Ladder((("x", 1),), 0, "near")
SEVERAL = (rising, least_rising, always_rise, first_fall)
LAST = 200


def some_figures(chance, ranges, many):
    """Return several figures, often near each other, for which there are not too many numbers."""
    names = list(ranges)
    while True:
        at = chance.randrange(len(names))
        found = tuple(names[min(len(names) - 1, max(0, at + chance.randrange(-2, 4)))] for _ in range(many))
        if chance.random() < 0.4:
            found = tuple(sorted(found, key=names.index))
        if math.prod(high - low + 1 for low, high in (ranges[text] for text in found)) <= 2000:
            return found


def all_numbers(ranges, texts):
    return list(itertools.product(*[range(low, high + 1) for low, high in (ranges[text] for text in texts)]))


def rise(numbers):
    return all(one <= two for one, two in zip(numbers, numbers[1:]))


class DifferenceTest(unittest.TestCase):

    def check(self, expected, word, one, two, ladder=NEAR):
        self.assertEqual(expected, difference(ladder, one, two))
        self.assertEqual(word, compared(ladder, one, two))
        back = None if expected is None else (-expected[1], -expected[0])
        self.assertEqual(back, difference(ladder, two, one))
        self.assertEqual({"more": "less", "less": "more"}.get(word, word), compared(ladder, two, one))

    def test_ordinary_figures(self):
        self.check((1, 149), "more", "1.0K", "1.1K")
        self.check((-149, -1), "less", "1.1K", "1.0K")
        self.check((2, 2), "more", "5", "7")
        self.check((-1, -1), "less", "7", "6")
        self.check((1, 50), "more", "999", "1.0K")
        self.check((-50, -1), "less", "1.0K", "999")
        self.check((1, 50149), "more", "999.9K", "1.0M")

    def test_the_same_figure_twice(self):
        self.check((-99, 99), "open", "1.1K", "1.1K")
        self.check((-49, 49), "open", "1.0K", "1.0K")
        self.check((0, 0), "equal", "7", "7")
        self.check((0, 0), "equal", "0", "0")
        # With `up`, only the threshold itself is shown by the first figure of a unit that nothing is carried to.
        self.check((0, 0), "equal", "1.0K", "1.0K", Ladder(THOUSANDS, 1, "up"))
        self.check((0, 0), "equal", "1.0M", "1.0M", Ladder(THOUSANDS, 1, "up", carry=False))

    def test_figures_beside_each_other(self):
        ladder = Ladder(THOUSANDS, 1, "up")
        self.check((1, 100), "more", "1.0K", "1.1K", ladder)
        self.check((1, 199), "more", "1.1K", "1.2K", ladder)
        self.check((1, 1), "more", "999", "1.0K", ladder)

    def test_figures_that_are_not_shown(self):
        for text in UNSHOWN:
            self.check(None, None, text, "7")
            self.check(None, None, text, text)

    def test_beyond_the_largest_number(self):
        self.check((2 * 10 ** 18 - 10 ** 18 + 1 - 10 ** 18, 3 * 10 ** 18 - 1 - 10 ** 18), "more", "1Q", "2Q",
                   Ladder(LONG, 0, "down"))
        nines = "9" * 24
        self.check((10 ** 24 - 1, 10 ** 24 - 1), "more", "0x", nines + "x", ONE)
        self.check((0, 0), "equal", nines + "x", nines + "x", ONE)
        self.check((-99999, 99999), "open", nines[1:] + ".9M", nines[1:] + ".9M")

    def test_beside_going_through_the_numbers(self):
        chance = random.Random(11)
        words = {}
        for rule in rules(SMALL[1:], (1, 3)):
            ranges = {text: (low, high) for text, low, high in runs(rule, LAST)}
            for _ in range(12):
                one, two = some_figures(chance, ranges, 2)
                found = {second - first for first, second in all_numbers(ranges, (one, two))}
                self.assertEqual(found, set(range(min(found), max(found) + 1)))
                word = ("more" if min(found) > 0 else "less" if max(found) < 0
                        else "equal" if found == {0} else "open")
                if difference(made(rule), one, two) != (min(found), max(found)):
                    self.fail((rule, one, two, difference(made(rule), one, two)))
                if compared(made(rule), one, two) != word:
                    self.fail((rule, one, two, compared(made(rule), one, two)))
                words[word] = words.get(word, 0) + 1
        for word in ("more", "less", "equal", "open"):
            self.assertGreater(words.get(word, 0), 20, word)

    def test_large_ladders_beside_showing_numbers(self):
        for rule in rules(LARGE, (1, 1000))[::7]:
            numbers = telling_numbers(rule)[::37]
            for one, two in zip(numbers, numbers[1:] + numbers[:1]):
                (low, high), (other_low, other_high) = range_about(rule, one), range_about(rule, two)
                self.assertEqual((other_low - high, other_high - low),
                                 difference(made(rule), shown(rule, one), shown(rule, two)))


class RisingTest(unittest.TestCase):

    def check(self, texts, ranges, always, fall, ladder=NEAR):
        self.assertEqual(ranges, rising(ladder, texts))
        least = None if ranges is None else tuple(low for low, _ in ranges)
        self.assertEqual(least, least_rising(ladder, texts))
        self.assertIs(always, always_rise(ladder, texts))
        self.assertEqual(fall, first_fall(ladder, texts))

    def test_no_figures(self):
        self.check((), (), True, -1)
        self.check((), (), True, -1, ONE)

    def test_one_figure(self):
        self.check(("1.1K",), ((1050, 1149),), True, -1)
        self.check(("0",), ((0, 0),), True, -1)

    def test_ordinary_figures(self):
        self.check(("5", "1.0K"), ((5, 5), (1000, 1049)), True, -1)
        self.check(("1.0K", "1.1K"), ((1000, 1049), (1050, 1149)), True, -1)
        self.check(("1.0K", "1.1K", "1.1K"), ((1000, 1049), (1050, 1149), (1050, 1149)), False, -1)
        self.check(("1.0K", "1.0K"), ((1000, 1049),) * 2, False, -1)
        self.check(("7", "7", "7"), ((7, 7),) * 3, True, -1)
        self.check(("7", "7", "8"), ((7, 7), (7, 7), (8, 8)), True, -1)

    def test_falling_figures(self):
        self.check(("1.1K", "1.0K"), None, False, 1)
        self.check(("1020", "1.0K"), None, None, None)
        self.check(("5", "1.1K", "1.0K"), None, False, 2)
        self.check(("8", "7", "6"), None, False, 1)
        self.check(("1.0K", "1.0K", "999", "998"), None, False, 2)
        self.check(("1.0K", "5", "1.1K", "7"), None, False, 1)

    def test_each_change_can_be_a_fall_without_one_that_must_be(self):
        self.check(("1.1K", "1.1K", "1.1K"), ((1050, 1149),) * 3, False, -1)

    def test_figures_that_are_not_shown(self):
        for text in UNSHOWN:
            for texts in ((text,), (text, "1.0K"), ("1.0K", text), ("1.1K", text, "1.0K"), ("1.1K", "1.0K", text)):
                self.check(texts, None, None, None)

    def test_twelve_figures(self):
        texts = ("1.0K", "1.0K", "1.1K", "1.1K", "1.2K", "1.2K") * 2
        self.check(texts, None, False, 6)
        texts = tuple(str(number) for number in range(12))
        self.check(texts, tuple((number, number) for number in range(12)), True, -1)
        self.check(texts[::-1], None, False, 1)
        self.check(("1.1K",) * 11 + ("1.0K",), None, False, 11)

    def test_large_figures(self):
        nines = "9" * 24 + "x"
        self.check(("5x", nines, nines), ((5, 5),) + ((10 ** 24 - 1,) * 2,) * 2, True, -1, ONE)
        self.check((nines, "5x"), None, False, 1, ONE)
        self.check(("1Q", "1Q", "2Q"), ((10 ** 18, 2 * 10 ** 18 - 1),) * 2 + ((2 * 10 ** 18, 3 * 10 ** 18 - 1),),
                   False, -1, Ladder(LONG, 0, "down"))

    def test_beside_going_through_the_numbers(self):
        chance = random.Random(12)
        kinds = {}
        for rule in rules(SMALL[1:], (1, 2, 3)):
            ranges = {text: (low, high) for text, low, high in runs(rule, LAST)}
            for _ in range(8):
                texts = some_figures(chance, ranges, chance.randrange(5))
                every = all_numbers(ranges, texts)
                good = [numbers for numbers in every if rise(numbers)]
                seen = tuple((min(row), max(row)) for row in zip(*good)) if good else None
                falls = [place for place in range(1, len(texts))
                         if all(numbers[place] < numbers[place - 1] for numbers in every)]
                if good and texts:
                    for row, (low, high) in zip(zip(*good), seen):
                        self.assertEqual(set(range(low, high + 1)), set(row))
                    self.assertIn(tuple(low for low, _ in seen), good)
                self.check(texts, seen, len(good) == len(every), falls[0] if falls else -1, made(rule))
                kind = (len(texts), seen is None, len(good) == len(every), bool(falls))
                kinds[kind] = kinds.get(kind, 0) + 1
        for kind in ((0, False, True, False), (1, False, True, False), (2, True, False, True),
                     (2, False, False, False), (2, False, True, False), (3, True, False, True),
                     (3, False, False, False), (3, False, True, False), (4, True, False, True),
                     (4, False, False, False), (4, False, True, False)):
            self.assertGreater(kinds.get(kind, 0), 10, kind)

    def test_ranges_that_overlap_only_if_they_are_the_same(self):
        # Figures follow one another, so that numbers that cannot rise fall somewhere in any case.
        chance = random.Random(13)
        for rule in rules(SMALL[1:], (1,)):
            ranges = {text: (low, high) for text, low, high in runs(rule, LAST)}
            texts = some_figures(chance, ranges, 4)
            self.assertEqual(rising(made(rule), texts) is None, first_fall(made(rule), texts) != -1)

    def test_all_roundings(self):
        for rounding, low, high in (("down", 1100, 1199), ("up", 1001, 1100), ("near", 1050, 1149),
                                    ("even", 1051, 1149)):
            self.assertIn(rounding, ROUNDINGS)
            self.check(("1.1K", "1.1K"), ((low, high),) * 2, False, -1, Ladder(THOUSANDS, 1, rounding))


class ArgumentsTest(ErrorCase):

    def test_by_keyword(self):
        self.assertEqual((1, 149), difference(other_text="1.1K", text="1.0K", ladder=NEAR))
        self.assertEqual("more", compared(other_text="1.1K", text="1.0K", ladder=NEAR))
        texts = ("1.0K", "1.1K")
        self.assertEqual([((1000, 1049), (1050, 1149)), (1000, 1050), True, -1],
                         [act(texts=texts, ladder=NEAR) for act in SEVERAL])

    def test_no_ladder(self):
        for value in NO_LADDERS:
            with self.subTest(value=value):
                for act in (difference, compared):
                    self.assert_value(NotALadder, value, act, value, "1.0K", "1.1K")
                    self.assert_value(NotALadder, value, act, value, "no", None)
                    self.assert_value(NotALadder, value, act, other_text=5, text=6, ladder=value)
                for act in SEVERAL:
                    self.assert_value(NotALadder, value, act, value, ("1.0K",))
                    self.assert_value(NotALadder, value, act, value, [])
                    self.assert_value(NotALadder, value, act, texts=("no",), ladder=value)

    def test_no_figure(self):
        for value in NO_FIGURES:
            with self.subTest(value=value):
                for act in (difference, compared):
                    self.assert_value(InvalidFigure, value, act, NEAR, value, "1.0K")
                    self.assert_value(InvalidFigure, value, act, NEAR, "1.0K", value)
                    self.assert_value(InvalidFigure, value, act, NEAR, "0.5K", value)
                    self.assert_value(InvalidFigure, value, act, NEAR, value, "other")
                    self.assert_value(InvalidFigure, value, act, other_text=value, text="1.0K", ladder=NEAR)
                    self.assert_value(InvalidFigure, value, act, other_text=None, text=value, ladder=NEAR)

    def test_no_texts(self):
        for act in SEVERAL:
            self.assert_bad_texts(InvalidTexts, lambda texts: act(NEAR, texts))
            self.assert_bad_texts(InvalidTexts, lambda texts: act(texts=texts, ladder=NEAR))

    def test_figures_of_another_ladder(self):
        for act in SEVERAL:
            self.assert_index(InvalidTexts, 1, act, NEAR, ("1.0K", "1K"))
            self.assert_index(InvalidTexts, 0, act, ONE, ("1", "1x"))


if __name__ == "__main__":
    unittest.main()
