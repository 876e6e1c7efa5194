"""What several sights of one number tell of it."""

import random
import unittest

from shortfigures import sights as sights_file
from shortfigures.errors import InvalidSights
from shortfigures.ladders import Ladder
from shortfigures.sights import needed, numbers_of, only_number
from tests.oracle import LARGE, LONG, SMALL, THOUSANDS, rules, shown, step_of, telling_numbers, texts, written
from tests.test_show import made
from tests.values import NO_FIGURES, NO_LADDERS, UNSHOWN, ErrorCase, odd_values

NEAR = Ladder(THOUSANDS, 1, "near")
PLAIN = Ladder(THOUSANDS, 0, "near")
UP = Ladder(THOUSANDS, 0, "up")
DOWN = Ladder(THOUSANDS, 1, "down")
ONE = Ladder((("x", 1),), 0, "near")

# All ranges that are looked at begin below 300 and are short, so that they end before the last number.
LAST = 400
CHOSEN = [rule for rule in rules(SMALL, (1, 2)) if len(rule[0]) > 1 and step_of(rule, len(rule[0]) - 1) <= 60]


def seen_range(pairs):
    """Return the range of the numbers that are shown by all pairs of a rule and a text, or None."""
    numbers = range(LAST + 1)
    for rule, text in pairs:
        seen = texts(rule, LAST)
        numbers = [number for number in numbers if seen[number] == text]
    return (numbers[0], numbers[-1]) if numbers else None


def seen_needed(pairs):
    if len(pairs) == 1:
        return (0,)
    return tuple(place for place in range(len(pairs))
                 if seen_range(pairs[:place] + pairs[place + 1:]) != seen_range(pairs))


def some_pair(chance, number):
    """Return a rule and a figure of it, which mostly is shown for this number or for one near it."""
    rule = chance.choice(CHOSEN)
    if chance.random() < 0.1:
        return rule, written(rule, len(rule[0]) - 1, chance.randrange(3))
    return rule, shown(rule, number + chance.choice((0, 0, 0, 0, chance.randrange(9))))


class SightsTest(unittest.TestCase):

    def check(self, ends, places, *sights):
        self.assertEqual(ends, numbers_of(sights))
        self.assertEqual(places, needed(sights))
        only = None if ends is None or ends[0] < ends[1] else ends[0]
        self.assertEqual(only, only_number(sights))

    def test_one_sight(self):
        self.check((1450, 1549), (0,), (NEAR, "1.5K"))
        self.check((7, 7), (0,), (NEAR, "7"))
        self.check((0, 0), (0,), (NEAR, "0"))
        self.check(None, (0,), (NEAR, "0.5K"))
        self.check((10 ** 24 - 1,) * 2, (0,), (ONE, "9" * 24 + "x"))

    def test_all_are_needed(self):
        self.check((1450, 1499), (0, 1), (NEAR, "1.5K"), (PLAIN, "1K"))
        self.check((1450, 1499), (0, 1), (PLAIN, "1K"), (NEAR, "1.5K"))
        self.check(None, (0, 1), (NEAR, "1.5K"), (NEAR, "1.6K"))
        self.check((1500, 1500), (0, 1), (Ladder(THOUSANDS, 1, "up"), "1.5K"), (DOWN, "1.5K"))

    def test_some_are_needed(self):
        self.check((1450, 1499), (0, 1), (NEAR, "1.5K"), (PLAIN, "1K"), (UP, "2K"))
        self.check((1450, 1499), (0, 2), (NEAR, "1.5K"), (UP, "2K"), (PLAIN, "1K"))
        self.check((1450, 1499), (1, 2), (UP, "2K"), (NEAR, "1.5K"), (PLAIN, "1K"))
        self.check((1450, 1549), (1,), (UP, "2K"), (NEAR, "1.5K"))
        self.check((1450, 1549), (0,), (NEAR, "1.5K"), (UP, "2K"))
        self.check((1476, 1476), (3,), (NEAR, "1.5K"), (UP, "2K"), (PLAIN, "1K"), (ONE, "1476x"))

    def test_none_is_needed(self):
        self.check((1450, 1549), (), (NEAR, "1.5K"), (NEAR, "1.5K"))
        self.check((1450, 1499), (), (NEAR, "1.5K"), (PLAIN, "1K"), (PLAIN, "1K"), (NEAR, "1.5K"))
        self.check((5, 5), (), (NEAR, "5"), (ONE, "5x"))
        # Three figures that do not fit one another in pairs, either.
        self.check(None, (), (NEAR, "1.5K"), (NEAR, "1.6K"), (NEAR, "1.7K"))

    def test_doubled(self):
        self.check((1450, 1499), (1,), (NEAR, "1.5K"), (PLAIN, "1K"), (NEAR, "1.5K"))
        self.check((1450, 1499), (2,), (NEAR, "1.5K"), (NEAR, "1.5K"), (PLAIN, "1K"))
        self.check(None, (2,), (NEAR, "1.5K"), (NEAR, "1.5K"), (NEAR, "1.6K"))
        self.check(None, (), (NEAR, "1.5K"), (NEAR, "1.6K"), (NEAR, "1.5K"), (NEAR, "1.6K"))

    def test_figures_that_are_not_shown(self):
        for text in UNSHOWN:
            self.check(None, (0,), (NEAR, text), (NEAR, "1.5K"))
            self.check(None, (1,), (NEAR, "1.5K"), (NEAR, text), (PLAIN, "1K"))
            self.check(None, (), (NEAR, text), (NEAR, "1.5K"), (NEAR, text))
            self.check(None, (), (NEAR, text), (NEAR, text))
            self.check(None, (), (NEAR, text), (NEAR, "1.5K"), (NEAR, "1.6K"))

    def test_only_number(self):
        self.assertEqual(1500, only_number(((Ladder(THOUSANDS, 1, "up"), "1.5K"), (DOWN, "1.5K"))))
        self.assertEqual(0, only_number(((NEAR, "0"), (ONE, "0x"))))
        self.assertIsNone(only_number(((NEAR, "1.5K"),)))
        self.assertIsNone(only_number(((NEAR, "1.5K"), (NEAR, "7"))))
        self.assertEqual(10 ** 21, only_number(((Ladder(LONG, 0, "up", least=1000), "1000Q"),
                                                (Ladder(LONG, 2, "down", least=1000), "1000.00Q"))))

    def test_beyond_the_largest_number(self):
        self.check((10 ** 18 + 1, 15 * 10 ** 17 - 1), (0, 1), (Ladder(LONG, 0, "near"), "1Q"),
                   (Ladder(LONG, 0, "up"), "2Q"))

    def test_beside_going_through_the_numbers(self):
        chance = random.Random(4)
        many = {}
        for _ in range(1500):
            number = chance.randrange(LAST // 2)
            pairs = [some_pair(chance, number) for _ in range(chance.randrange(1, 5))]
            if len(pairs) > 1 and chance.random() < 0.3:
                pairs[0] = chance.choice(pairs)
                chance.shuffle(pairs)
            self.check(seen_range(pairs), seen_needed(pairs), *[(made(rule), text) for rule, text in pairs])
            kind = (len(pairs), seen_range(pairs) is None, len(seen_needed(pairs)))
            many[kind] = many.get(kind, 0) + 1
        for kind in ((1, False, 1), (1, True, 1),
                     (2, False, 0), (2, False, 1), (2, False, 2), (2, True, 1), (2, True, 2),
                     (3, False, 0), (3, False, 1), (3, False, 2), (3, True, 0), (3, True, 1),
                     (4, False, 0), (4, False, 1), (4, False, 2), (4, True, 0), (4, True, 1)):
            self.assertGreater(many.get(kind, 0), 2, kind)

    def test_large_numbers(self):
        chance = random.Random(5)
        chosen = rules(LARGE, (1, 3, 1000))
        for rule in chosen[::5]:
            for number in telling_numbers(rule)[::29]:
                pairs = [(other, shown(other, number)) for other in [rule] + chance.sample(chosen, 3)]
                low, high = numbers_of(tuple((made(other), text) for other, text in pairs))
                self.assertTrue(low <= number <= high)
                for at, all_fit in ((low - 1, False), (low, True), (high, True), (high + 1, False)):
                    if at >= 0:
                        self.assertIs(all_fit, all(shown(other, at) == text for other, text in pairs))

    def test_by_keyword(self):
        sights = ((NEAR, "1.5K"), (PLAIN, "1K"))
        self.assertEqual([(1450, 1499), None, (0, 1)],
                         [numbers_of(sights=sights), only_number(sights=sights), needed(sights=sights)])


class WrongSightsTest(ErrorCase):

    def check(self, index, sights):
        with self.subTest(sights=sights):
            for act in (numbers_of, only_number, needed):
                self.assert_index(InvalidSights, index, act, sights)
                self.assert_index(InvalidSights, index, act, sights=sights)

    def test_no_tuple(self):
        good = (NEAR, "1.5K")
        for value in [[good], [good, good], {good[1]: good}, NEAR, "1.5K", "5", 5, True, iter((good,)), range(1, 3)]:
            self.check(None, value)
        for value in odd_values():
            if not isinstance(value, tuple):
                self.check(None, value)

    def test_a_wrong_number_of_elements(self):
        good = (NEAR, "1.5K")
        self.check(None, ())
        self.check(None, (good,) * 5)
        self.check(None, (None,) * 5)
        self.check(None, (good,) * 200)
        self.assertEqual((1450, 1549), numbers_of((good,) * 4))

    def test_a_bad_element(self):
        good = (NEAR, "1.5K")
        for bad in ([NEAR, "1.5K"], (NEAR,), (NEAR, "1.5K", 1), ("1.5K", NEAR), (NEAR, NEAR), ("1.5K", "1.5K"), NEAR,
                    "1.5K", 5, True, {"1.5K": NEAR}, (PLAIN, "1.5K"), *odd_values()):
            self.check(0, (bad,))
            self.check(0, (bad, good))
            self.check(1, (good, bad))
            self.check(1, (good, bad, bad))
            self.check(3, (good, good, good, bad))
            self.check(2, (good, good, bad, None))

    def test_a_bad_ladder_or_figure(self):
        for ladder in NO_LADDERS:
            self.check(0, ((ladder, "1.5K"),))
            self.check(1, ((NEAR, "0.5K"), (ladder, "1.5K")))
        for text in NO_FIGURES:
            self.check(0, ((NEAR, text),))
            self.check(1, ((NEAR, "0.5K"), (NEAR, text)))

    def test_defined_where_they_are_listed(self):
        for name in ("numbers_of", "only_number", "needed"):
            self.assertEqual("shortfigures.sights", getattr(sights_file, name).__module__)


if __name__ == "__main__":
    unittest.main()
