"""Which ladders fit what was seen, and where several of them part."""

import random
import time
import unittest

from shortfigures.errors import InvalidSeen, InvalidUnits
from shortfigures.families import fitting, parting
from shortfigures.ladders import Ladder
from tests.oracle import (
    LARGE, LONG, ROUNDINGS, SMALL, THOUSANDS, first_seen, is_rule, shown, telling_numbers)
from tests.test_columns import FINE
from tests.values import NO_NUMBERS, NO_TUPLES, ErrorCase, nested, odd_values

ONE = (("", 1),)
TALL = (("", 1), ("E", 10 ** 18))
ALL_UNITS = [units for units, _ in SMALL + LARGE] + [FINE, TALL]
# All triples, in their order.
TRIPLES = [(decimals, rounding, carry) for decimals in range(4) for rounding in ROUNDINGS for carry in (False, True)]


def possible(units):
    """Return the triples with which there is a ladder, in their order."""
    return [triple for triple in TRIPLES if is_rule((units, triple[0]))]


def rule_of(units, triple):
    return (units, *triple, 1)


class FittingTest(unittest.TestCase):

    def check(self, units, seen):
        expected = tuple(triple for triple in possible(units)
                         if all(shown(rule_of(units, triple), number) == text for number, text in seen))
        self.assertEqual(expected, fitting(units, seen))
        for triple in fitting(units, seen):
            self.assertIsInstance(triple, tuple)
            self.assertIsInstance(triple[2], bool)
        return expected

    def test_ordinary_figures(self):
        self.assertEqual(((1, "even", True),), fitting(THOUSANDS, ((1050, "1.0K"), (999999, "1.0M"))))
        self.assertEqual(((1, "even", False), (1, "even", True)), fitting(THOUSANDS, ((1050, "1.0K"), (1099, "1.1K"))))
        self.assertEqual(((1, "near", False),),
                         fitting(THOUSANDS, ((1050, "1.1K"), (1001, "1.0K"), (999950, "1000.0K"))))
        self.assertEqual(((0, "down", False), (0, "down", True)), fitting(THOUSANDS, ((1999, "1K"),)))
        self.assertEqual(((0, "up", False), (0, "up", True)), fitting(THOUSANDS, ((1001, "2K"),)))

    def test_nothing_was_seen(self):
        for units in ALL_UNITS:
            self.assertEqual(tuple(possible(units)), fitting(units, ()))
        self.assertEqual(32, len(fitting(ONE, ())))
        self.assertEqual(tuple(TRIPLES), fitting(ONE, ()))
        self.assertEqual(24, len(fitting(THOUSANDS, ())))
        self.assertEqual(8, len(fitting((("", 1), ("a", 2)), ())))
        self.assertEqual((), fitting((("", 1), ("a", 3)), ()))

    def test_numbers_that_all_show_alike(self):
        self.assertEqual(tuple(TRIPLES), fitting(ONE, ((0, "0"), (10 ** 18, "1000000000000000000"))))
        self.assertEqual(tuple(possible(THOUSANDS)), fitting(THOUSANDS, ((999, "999"),)))

    def test_texts_that_nobody_shows(self):
        for text in ("", "1", "1000", "no", "1.0", "1.0000K", " 1.0K", "1.0K ", "1.0k", "01.0K", "\u0661K", "x" * 200):
            self.assertEqual((), fitting(THOUSANDS, ((1000, text),)))
            self.assertEqual((), fitting(THOUSANDS, ((1000, "1.0K"), (1000, text))))
        self.assertEqual((), fitting(THOUSANDS, ((1000, "1K"), (1000, "1.0K"))))

    def test_decimals_that_do_not_suit(self):
        self.assertEqual((), fitting(THOUSANDS, ((1000, "1.000K"),)))
        self.assertEqual(8, len(fitting(FINE, ((2000, "1.000K"),))))
        self.assertEqual((), fitting((("", 1), ("K", 1000), ("M", 6000), ("B", 18000)), ((1000, "1.000K"),)))
        self.assertEqual(tuple(triple for triple in TRIPLES if triple[0] == 2),
                         fitting((("", 1), ("K", 1000), ("M", 6000), ("B", 18000)), ((1000, "1.00K"),)))

    def test_twelve_pairs(self):
        seen = tuple((1000 + 50 * k, shown((THOUSANDS, 1, "even", False, 1), 1000 + 50 * k)) for k in range(11))
        self.assertEqual(((1, "even", False), (1, "even", True)), fitting(THOUSANDS, seen))
        self.assertEqual(((1, "even", False),), fitting(THOUSANDS, seen + ((999950, "1000.0K"),)))
        self.assertEqual((), fitting(THOUSANDS, seen + ((999950, "1000.1K"),)))
        self.assertEqual(((1, "even", False),), fitting(THOUSANDS, ((999950, "1000.0K"),) * 5 + seen[:7]))

    def test_beside_making_each_ladder_and_showing(self):
        chance = random.Random(31)
        many = {}
        for units in ALL_UNITS:
            numbers = telling_numbers((units, 0, "up", True, 1))
            for triple in possible(units):
                rule = rule_of(units, triple)
                for _ in range(3):
                    chosen = chance.sample(numbers, chance.randrange(4))
                    seen = [(number, shown(rule, number)) for number in chosen]
                    if seen and chance.random() < 0.2:
                        seen.append((chosen[0], shown(rule, chosen[0] + 1)))
                    found = self.check(units, tuple(seen))
                    many[len(found)] = many.get(len(found), 0) + 1
        for number in (0, 1, 2, 4, 8):
            self.assertGreater(many.get(number, 0), 3, number)

    def test_by_keyword(self):
        self.assertEqual(((1, "even", True),),
                         fitting(seen=((1050, "1.0K"), (999999, "1.0M")), units=THOUSANDS))


class PartingTest(unittest.TestCase):

    def test_ordinary_triples(self):
        self.assertEqual(1050, parting(THOUSANDS, ((1, "near", True), (1, "even", True))))
        self.assertEqual(999950, parting(THOUSANDS, ((1, "near", True), (1, "near", False))))
        self.assertEqual(1001, parting(THOUSANDS, ((1, "near", True), (1, "even", True), (1, "up", True))))
        self.assertEqual(1000, parting(THOUSANDS, ((1, "near", True), (1, "near", False), (0, "near", True))))
        self.assertEqual(999950, parting(THOUSANDS, ((1, "near", True), (1, "near", True), (1, "near", False))))

    def test_none(self):
        for units in ALL_UNITS:
            for triple in possible(units):
                self.assertIsNone(parting(units, (triple,)))
                self.assertIsNone(parting(units, (triple,) * 8))
        self.assertIsNone(parting(THOUSANDS, ((1, "down", True), (1, "down", False))))
        self.assertIsNone(parting((("", 1), ("a", 2)), ((0, "near", True), (0, "up", False), (0, "near", False))))
        self.assertIsNone(parting(ONE, tuple(TRIPLES[::4])))

    def test_beyond_the_largest_number(self):
        self.assertEqual(15 * 10 ** 17, parting(TALL, ((0, "down", True), (0, "near", True))))
        self.assertEqual(25 * 10 ** 17, parting(TALL, ((0, "even", True), (0, "near", True))))
        self.assertEqual(10 ** 18 + 1, parting(TALL, ((0, "even", True), (0, "near", True), (0, "up", False))))
        self.assertEqual(10 ** 18, parting(TALL, ((0, "down", True), (1, "down", True))))
        self.assertIsNone(parting(TALL, ((0, "near", False), (0, "near", True))))

    def test_the_first_one_is_not_special(self):
        triples = ((1, "near", True), (1, "near", False), (1, "even", True))
        for turned in ((0, 1, 2), (0, 2, 1), (1, 0, 2), (1, 2, 0), (2, 0, 1), (2, 1, 0)):
            self.assertEqual(1050, parting(THOUSANDS, tuple(triples[place] for place in turned)))

    def test_beside_going_through_the_numbers(self):
        chance = random.Random(32)
        none = 0
        for units, _ in SMALL:
            if len(units) > 1:
                for _ in range(60):
                    decimals = chance.choice(possible(units))[0]
                    near = [triple for triple in possible(units) if triple[0] == decimals or chance.random() < 0.05]
                    triples = tuple(chance.choice(near) for _ in range(chance.choice((1, 2, 2, 3, 4, 8))))
                    expected = first_seen(
                        *[rule_of(units, triple) for triple in triples],
                        holds=lambda *seen: len({texts[seen[-1]] for texts in seen[:-1]}) > 1)
                    none += expected is None
                    if parting(units, triples) != expected:
                        self.fail((units, triples, expected, parting(units, triples)))
        self.assertGreater(none, 20)

    def test_large_units_beside_showing_numbers(self):
        chance = random.Random(33)
        for units in ALL_UNITS:
            numbers = telling_numbers((units, 0, "up", True, 1))[::5]
            for _ in range(20):
                triples = tuple(chance.choice(possible(units)) for _ in range(chance.randrange(2, 9)))
                some = [rule_of(units, triple) for triple in triples]
                found = parting(units, triples)
                if found is not None:
                    self.assertGreater(len({shown(rule, found) for rule in some}), 1)
                for number in numbers + ([found - 1] if found else []):
                    if found is None or number < found:
                        self.assertEqual(1, len({shown(rule, number) for rule in some}))

    def test_no_answer_takes_long(self):
        begin = time.perf_counter()
        for _ in range(20):
            parting(FINE, tuple(possible(FINE)[-8:]))
            fitting(FINE, ((10 ** 18, "1.000Q"),) * 12)
        self.assertLess(time.perf_counter() - begin, 10)

    def test_by_keyword(self):
        self.assertEqual(1050, parting(triples=((1, "near", True), (1, "even", True)), units=THOUSANDS))


class WrongArgumentsTest(ErrorCase):

    def test_no_units(self):
        for index, units in ((None, ()), (None, []), (None, list(THOUSANDS)), (None, None), (None, 5), (None, "units"),
                             (None, LONG + (("Z", 2 * 10 ** 18),)), (None, Ladder(THOUSANDS, 1, "near")),
                             (0, (None,)), (0, (("", 2),)), (1, (("", 1), ("K", 1))), (1, (("", 1), ("", 2))),
                             (2, THOUSANDS[:2] + (None,)), (2, (("", 1), ("K", 1000), ("M", 1500))), (0, ((True, 1),)),
                             (0, (("", True),)), (1, (("", 1), ["K", 1000])), (0, nested(14))):
            with self.subTest(units=units):
                self.assert_index(InvalidUnits, index, fitting, units, ())
                self.assert_index(InvalidUnits, index, fitting, units, None)
                self.assert_index(InvalidUnits, index, fitting, seen=((-1, 5),), units=units)
                self.assert_index(InvalidUnits, index, parting, units, ((1, "near", True),))
                self.assert_index(InvalidUnits, index, parting, units, ())
                self.assert_index(InvalidUnits, index, parting, triples=None, units=units)

    def test_units_that_allow_no_decimals(self):
        # They are units, but nothing can be made of them.
        units = (("", 1), ("a", 3))
        self.assertEqual((), fitting(units, ((0, "0"),)))
        self.assert_index(InvalidSeen, None, fitting, units, [])
        self.assert_index(InvalidSeen, 0, parting, units, ((0, "near", True),))

    def test_no_seen(self):
        for value in NO_TUPLES:
            self.assert_index(InvalidSeen, None, fitting, THOUSANDS, value)
            self.assert_index(InvalidSeen, None, fitting, seen=value, units=THOUSANDS)
        for many in (13, 14, 200):
            self.assert_index(InvalidSeen, None, fitting, THOUSANDS, ((0, "0"),) * many)
            self.assert_index(InvalidSeen, None, fitting, THOUSANDS, (None,) * many)

    def test_a_bad_pair(self):
        good = (1000, "1.0K")
        bad_ones = [(number, "1.0K") for number in NO_NUMBERS] + [(1000, text) for text in [5, True] + odd_values()]
        bad_ones += [[1000, "1.0K"], (1000,), (1000, "1.0K", 1), ("1.0K", 1000), 1000, "1.0K", {1000: "1.0K"}]
        for bad in bad_ones + odd_values():
            with self.subTest(bad=bad):
                self.assert_index(InvalidSeen, 0, fitting, THOUSANDS, (bad,))
                self.assert_index(InvalidSeen, 1, fitting, THOUSANDS, (good, bad, bad))
                self.assert_index(InvalidSeen, 11, fitting, THOUSANDS, ((1000, "no"),) * 11 + (bad,))

    def test_no_triples(self):
        good = (1, "near", True)
        for value in NO_TUPLES + [[good], {good: good}]:
            self.assert_index(InvalidSeen, None, parting, THOUSANDS, value)
            self.assert_index(InvalidSeen, None, parting, triples=value, units=THOUSANDS)
        for many in (0, 9, 10, 200):
            self.assert_index(InvalidSeen, None, parting, THOUSANDS, (good,) * many)
            self.assert_index(InvalidSeen, None, parting, THOUSANDS, (None,) * many)

    def test_a_bad_triple(self):
        good = (1, "near", True)
        bad_ones = [(value, "near", True) for value in [-1, 3, 4, 10 ** 21, True, "1"] + odd_values()]
        bad_ones += [(1, value, True) for value in ["", "Near", "no", 1, True] + odd_values()]
        bad_ones += [(1, "near", value) for value in [0, 1, "True", ""] + odd_values()]
        bad_ones += [[1, "near", True], (1, "near"), (1,), (1, "near", True, 1), "1nT", 5, True]
        for bad in bad_ones + odd_values():
            with self.subTest(bad=bad):
                self.assert_index(InvalidSeen, 0, parting, THOUSANDS, (bad,))
                self.assert_index(InvalidSeen, 1, parting, THOUSANDS, (good, bad, bad))
                self.assert_index(InvalidSeen, 7, parting, THOUSANDS, ((0, "up", False),) * 7 + (bad,))

    def test_decimals_that_some_units_allow(self):
        self.assert_index(InvalidSeen, 1, parting, THOUSANDS, ((2, "near", True), (3, "near", True)))
        self.assertEqual(2000, parting(FINE, ((2, "near", True), (3, "near", True))))


if __name__ == "__main__":
    unittest.main()
