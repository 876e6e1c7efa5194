"""What the checker accepts, and that it accepts nothing else."""

import itertools
import random
import time
import unittest

from shortfigures import checker
from shortfigures.certificates import certify_alike, certify_column, certify_steady, certify_tells
from shortfigures.checker import holds
from shortfigures.ladders import Ladder
from tests.oracle import LARGE, SMALL, THOUSANDS, rules, shown, small_variants, texts, worth_of_shown, written
from tests.test_columns import FINE
from tests.test_show import made
from tests.values import NO_FIGURES, UNSHOWN, nested, odd_values

NEAR = Ladder(THOUSANDS, 1, "near").told
EVEN = Ladder(THOUSANDS, 1, "even").told
PLAIN = Ladder(THOUSANDS, 0, "near").told
DOWN = Ladder(THOUSANDS, 1, "down").told
DOWN_ONLY = Ladder(THOUSANDS, 1, "down", carry=False).told
CUT = Ladder(THOUSANDS, 1, "near", carry=False).told
TALL = Ladder((("", 1), ("E", 10 ** 18)), 0, "near").told
TALL_DOWN = Ladder((("", 1), ("E", 10 ** 18)), 0, "down").told
ROWS = ("1.0K", "1.0K")

# A claim that is true for each word, with a paper that shows it.
GOOD = (
    (("alike", DOWN, DOWN_ONLY), ()),
    (("unlike", NEAR, EVEN), 1050),
    (("steady", NEAR), ()),
    (("drifts", CUT), 999950),
    (("tells", CUT, NEAR), ()),
    (("hides", NEAR, PLAIN), (1499, 1500)),
    (("possible", NEAR, ROWS, "2.1K"), (1049, 1049)),
    (("impossible", NEAR, ROWS, "2.2K"), ()),
)
OPPOSITE = {"alike": "unlike", "unlike": "alike", "steady": "drifts", "drifts": "steady", "tells": "hides",
            "hides": "tells", "possible": "impossible", "impossible": "possible"}
NUMBERS = (0, 1, 7, 99, 100, 999, 1000, 1049, 1050, 1499, 1500, 2000, 2050, 999899, 999900, 999901, 999949, 999950,
           999999, 10 ** 6, 10 ** 9, 10 ** 18 - 1, 10 ** 18, 10 ** 18 + 1, 25 * 10 ** 17, 10 ** 21, 10 ** 22 - 1)
# Papers of all sorts.
PAPERS = ([(), [], None, "", "()", True, False, -1, -1050, (1050,), [1050], (0, 0), ((),), {}, "1050", b""]
          + list(NUMBERS) + list(itertools.product(NUMBERS[::3], repeat=2)) + [[1499, 1500], (1499, 1500, 1501)]
          + [(1049, 1049, 0), (1049,), (-1, 2099), (True, 1049), (1049, "1049"), (1049, None)]
          + [value for value in odd_values() if value != ()])


class CheckerCase(unittest.TestCase):

    def check(self, expected, claim, paper):
        """Check an answer, which is True or False itself."""
        if holds(claim, paper) is not expected:
            self.fail((claim, paper, expected))

    def accepted(self, claim):
        """Return those of some hundred papers that the checker accepts."""
        found = []
        for paper in PAPERS:
            told = holds(claim, paper)
            self.assertIsInstance(told, bool)
            if told:
                found.append(paper)
        return found


class PapersTest(CheckerCase):

    def test_good_claims(self):
        for claim, paper in GOOD:
            self.check(True, claim, paper)

    def test_some_hundred_papers(self):
        self.assertGreater(len(PAPERS), 100)

    def test_empty_papers(self):
        for claim, paper in GOOD:
            if paper == ():
                self.assertEqual([()], self.accepted(claim))
            else:
                self.check(False, claim, ())

    def test_unlike(self):
        differ = [number for number in NUMBERS if shown(NEAR, number) != shown(EVEN, number)]
        self.assertEqual(differ, self.accepted(("unlike", NEAR, EVEN)))
        self.assertEqual(differ, self.accepted(("unlike", EVEN, NEAR)))
        self.assertEqual([1050, 2050], differ)
        for number, expected in ((1049, False), (1050, True), (1051, False), (1250, True), (1150, False),
                                 (999949, False), (999950, False), (1050000, True), (10 ** 22 + 50000, True),
                                 (10 ** 22 + 150000, False)):
            self.check(expected, ("unlike", NEAR, EVEN), number)

    def test_drifts(self):
        differ = [number for number in NUMBERS if shown(CUT, number) != shown(CUT, worth_of_shown(CUT, number))]
        self.assertEqual(differ, self.accepted(("drifts", CUT)))
        self.assertEqual([999950, 999999], differ)

    def test_hides(self):
        found = self.accepted(("hides", NEAR, PLAIN))
        expected = [(one, two) for one, two in itertools.product(NUMBERS[::3], repeat=2)
                    if shown(NEAR, one) == shown(NEAR, two) and shown(PLAIN, one) != shown(PLAIN, two)]
        self.assertEqual(expected, found)
        for pair, told in (((1499, 1500), True), ((1500, 1499), True), ((1450, 1549), True), ((1499, 1499), False),
                           ((1500, 1501), False), ((1449, 1500), False), ((1000, 2000), False), ((0, 1), False),
                           ([1499, 1500], False), ((1499, 1500, 1500), False), ((1499,), False), (1499, False),
                           ((1499, True), False), ((1499, "1500"), False)):
            self.check(told, ("hides", NEAR, PLAIN), pair)

    def test_possible(self):
        for paper, told in (
                ((1001, 1049), True), ((1049, 1001), True), ((1049, 1049), True), ((1025, 1025), True),
                ((1000, 1049), False), ((1001, 1048), False), ((1050, 1000), False), ((1050, 1049), False),
                ((999, 1051), False), ((1001,), False), ((1001, 1049, 0), False), ([1001, 1049], False), (2050, False),
                ((), False), ((-1, 2051), False), ((1025, True), False), (("1001", 1049), False),
                (((1001, 1049),), False), ((1001, None), False)):
            self.check(told, ("possible", NEAR, ROWS, "2.1K"), paper)
        # The numbers have to be in the order of the rows.
        self.check(True, ("possible", NEAR, ("1.0K", "7"), "1.0K"), (1000, 7))
        self.check(False, ("possible", NEAR, ("1.0K", "7"), "1.0K"), (7, 1000))
        self.check(True, ("possible", NEAR, (), "0"), ())
        self.check(False, ("possible", NEAR, (), "1"), ())
        self.check(False, ("possible", NEAR, (), "0"), (0,))
        self.check(True, ("possible", NEAR, ("1.0K",) * 12, "12.6K"), (1049,) * 12)
        self.check(False, ("possible", NEAR, ("1.0K",) * 12, "12.6K"), (1049,) * 11)
        self.check(False, ("possible", NEAR, ("1.0K",) * 12, "12.6K"), (1049,) * 13)

    def test_impossible(self):
        for rows, total, told in ((ROWS, "2.2K", True), (ROWS, "1.9K", True), (ROWS, "2.1K", False),
                                  (ROWS, "2.0K", False),
                                  ((), "1", True), ((), "0", False), (("5",), "6", True), (("5",), "5", False)):
            self.check(told, ("impossible", NEAR, rows, total), ())

    def test_figures_that_are_not_shown_are_impossible(self):
        for text in UNSHOWN:
            for rows, total in (((text,), "1.0K"), (("1.0K", text), "2.0K"), (ROWS, text), ((), text), ((text,), text)):
                self.check(True, ("impossible", NEAR, rows, total), ())
                self.assertEqual([], self.accepted(("possible", NEAR, rows, total)))

    def test_papers_beyond_the_largest_number(self):
        for number, told in ((10 ** 18, False), (15 * 10 ** 17 - 1, False), (15 * 10 ** 17, True),
                             (2 * 10 ** 18 - 1, True), (2 * 10 ** 18, False), (25 * 10 ** 17, True), (10 ** 21, False),
                             (10 ** 21 - 1, True), (10 ** 22 - 1, True), (10 ** 30 - 1, True), (10 ** 30, False)):
            self.check(told, ("unlike", TALL, TALL_DOWN), number)
        self.check(True, ("hides", TALL_DOWN, TALL), (10 ** 18, 2 * 10 ** 18 - 1))
        self.check(True, ("hides", TALL_DOWN, TALL), (10 ** 30 + 1, 10 ** 30 + 10 ** 18 - 1))
        self.check(False, ("hides", TALL_DOWN, TALL), (10 ** 30 - 1, 10 ** 30))
        far = Ladder((("", 1), ("K", 1000), ("E", 10 ** 18)), 1, "up", carry=False, least=1000).told
        self.check(True, ("drifts", far), 10 ** 21 - 1)
        self.check(True, ("drifts", far), 10 ** 21 - 99)
        self.check(False, ("drifts", far), 10 ** 21 - 100)
        self.check(False, ("drifts", far), 10 ** 21)
        nines = "9" * 24
        self.check(True, ("possible", NEAR, (nines[1:] + ".9M",), nines[1:] + ".9M"), ((10 ** 24 - 1) * 10 ** 5,))
        self.check(False, ("possible", NEAR, (nines[1:] + ".9M",), nines[1:] + ".9M"), (10 ** 29,))


class FormsTest(CheckerCase):

    def refused(self, claim):
        """Check that the checker accepts nothing for this claim."""
        for paper in ((), 1050, 999950, (1499, 1500), (1049, 1049), None, 0, (0, 0)):
            self.check(False, claim, paper)

    def test_other_words(self):
        for claim, paper in GOOD:
            for word in ("", "Alike", "alike ", " alike", "same", "not alike", "told", "holds", claim[0].upper(),
                         claim[0] + " ", claim[0][:-1], None, 0, True, b"alike", (claim[0],), [claim[0]],
                         *odd_values()):
                self.check(False, (word,) + claim[1:], paper)
                self.check(False, (word,) + claim[1:], ())

    def test_no_tuple(self):
        for claim, paper in GOOD:
            self.check(False, list(claim), paper)
            self.check(False, claim[0], paper)
            self.check(False, dict(enumerate(claim)), paper)
            self.check(False, (claim,), paper)
            self.check(False, (claim, paper), paper)
        for value in [(), [], "", "alike", 5, True, NEAR, Ladder(THOUSANDS, 1, "near"), nested(15)] + odd_values():
            self.refused(value)

    def test_too_few_and_too_many_elements(self):
        for claim, paper in GOOD:
            for many in range(len(claim)):
                self.check(False, claim[:many], paper)
            for more in (None, (), NEAR, "1.0K", paper):
                self.check(False, claim + (more,), paper)
            self.check(False, claim[:1] + claim[2:], paper)

    def test_words_with_another_word_s_elements(self):
        for claim, _ in GOOD:
            for other, paper in GOOD:
                if len(claim) != len(other):
                    self.check(False, other[:1] + claim[1:], paper)

    def test_ladders_that_cannot_be_made(self):
        units = THOUSANDS
        bad = [list(NEAR), NEAR[:4], NEAR + (1,), (), (NEAR,), Ladder(*NEAR[:3]), "near", 5, None, True,
               (list(units),) + NEAR[1:], ((),) + NEAR[1:], (units[:2] + (["M", 10 ** 6],),) + NEAR[1:],
               ((("", True),) + units[1:],) + NEAR[1:], ((("", 1), ("", 1000)),) + NEAR[1:], (units * 3,) + NEAR[1:],
               (units, 3, "near", True, 1), (units, True, "near", True, 1), (units, "1", "near", True, 1),
               (units, 1, "Near", True, 1), (units, 1, None, True, 1), (units, 1, "near", 1, 1),
               (units, 1, "near", 0, 1),
               (units, 1, "near", None, 1), (units, 1, "near", True, 0), (units, 1, "near", True, 1001),
               (units, 1, "near", True, True), (units, 1, "near", True, "1"), (units, 1, "near", 1, True),
               dict(enumerate(NEAR))]
        for ladder in bad + odd_values():
            for claim, paper in GOOD:
                self.check(False, claim[:1] + (ladder,) + claim[2:], paper)
                if claim[0] in ("alike", "unlike", "tells", "hides"):
                    self.check(False, claim[:2] + (ladder,), paper)

    def test_rows_that_are_none(self):
        bad = [list(ROWS), "1.0K", None, 5, {"1.0K": 1}, ROWS + (5,), ("1.0K", None), (["1.0K"], "1.0K"), (ROWS, ROWS)]
        bad += [("1.0K",) * 13, (None,) * 13] + [value for value in odd_values() if value not in ((), ("5",))]
        for rows in bad:
            for word in ("possible", "impossible"):
                for paper in ((), (1049, 1049), (1000,) * 13):
                    self.check(False, (word, NEAR, rows, "2.1K"), paper)
                    self.check(False, (word, NEAR, rows, "2.2K"), paper)
        for text in NO_FIGURES:
            self.check(False, ("impossible", NEAR, (text,), "2.2K"), ())
            self.check(False, ("impossible", NEAR, ("1.0K", text), "2.2K"), ())

    def test_a_total_that_is_none(self):
        for total in NO_FIGURES + [ROWS, ("2.1K",), ["2.1K"]]:
            self.check(False, ("impossible", NEAR, ROWS, total), ())
            self.check(False, ("possible", NEAR, ROWS, total), (1049, 1049))

    def test_marks_with_more_than_24_digits(self):
        one = Ladder((("x", 1),), 0, "near").told
        text, longer = "9" * 24 + "x", "1" + "0" * 24 + "x"
        self.check(True, ("possible", one, (text,), text), (10 ** 24 - 1,))
        self.check(False, ("possible", one, (longer,), longer), (10 ** 24,))
        self.check(False, ("impossible", one, (longer,), text), ())
        self.check(False, ("impossible", one, (text,), longer), ())

    def test_twelve_rows(self):
        self.check(True, ("impossible", NEAR, ("1.0K",) * 12, "1.0K"), ())
        self.check(False, ("impossible", NEAR, ("1.0K",) * 13, "1.0K"), ())
        self.check(True, ("possible", NEAR, ("5",) * 12, "60"), (5,) * 12)
        self.check(False, ("possible", NEAR, ("5",) * 13, "65"), (5,) * 13)

    def test_papers_of_all_kinds(self):
        for claim, _ in GOOD:
            for paper in odd_values() + [nested(15), Ladder(*NEAR[:3]), NEAR, claim, GOOD]:
                if paper != ():
                    self.check(False, claim, paper)

    def test_by_keyword(self):
        self.assertIs(True, holds(paper=1050, claim=("unlike", NEAR, EVEN)))
        self.assertIs(False, holds(claim=1050, paper=("unlike", NEAR, EVEN)))

    def test_defined_where_it_is_listed(self):
        self.assertEqual("shortfigures.checker", checker.holds.__module__)


class FalseClaimsTest(CheckerCase):

    def check_pair(self, told):
        """Check that a certificate is accepted, and that nothing is for the opposite claim."""
        claim, paper = told
        self.check(True, claim, paper)
        opposite = (OPPOSITE[claim[0]],) + claim[1:]
        self.assertEqual([], self.accepted(opposite))
        self.check(False, opposite, paper)
        return claim[0]

    def test_good_claims_the_other_way_round(self):
        for told in GOOD:
            self.check_pair(told)

    def test_certificates(self):
        chance = random.Random(51)
        words = {}
        chosen = rules(SMALL, (1, 2))
        for rule in chance.sample(chosen, 60) + rules(LARGE, (1, 1000))[::9]:
            ladder = made(rule)
            for other in chance.sample(small_variants(rule) or chosen, 2) + [rule, chance.choice(chosen)]:
                for certify in (certify_alike, certify_tells):
                    word = self.check_pair(certify(ladder, made(other)))
                    words[word] = words.get(word, 0) + 1
            word = self.check_pair(certify_steady(ladder))
            words[word] = words.get(word, 0) + 1
            for _ in range(3):
                numbers = [chance.randrange(90) for _ in range(chance.randrange(4))]
                total = shown(rule, max(0, sum(numbers) + chance.choice((0, 0, 0, 20, -20))))
                word = self.check_pair(certify_column(ladder, tuple(shown(rule, number) for number in numbers), total))
                words[word] = words.get(word, 0) + 1
        for word in OPPOSITE:
            self.assertGreater(words.get(word, 0), 10, word)

    def test_no_number_shows_a_false_claim(self):
        # All numbers and pairs as far as the figures begin to repeat, for ladders that are alike or tell.
        one, two = (((("", 1), ("A", 2), ("B", 6)), 0, "even", carry, 1) for carry in (False, True))
        for number in range(60):
            self.check(False, ("unlike", one, two), number)
            self.check(False, ("drifts", one), number)
            for other in range(60):
                self.check(False, ("hides", one, two), (number, other))

    def test_beside_showing_numbers(self):
        chance = random.Random(52)
        for rule in chance.sample(rules(SMALL, (1, 2, 3)), 40):
            seen = texts(rule, 260)
            for other in chance.sample(small_variants(rule), min(3, len(small_variants(rule)))):
                two = texts(other, 260)
                for number in chance.sample(range(260), 40):
                    self.check(seen[number] != two[number], ("unlike", rule, other), number)
                    near = max(0, min(260, number + chance.randrange(-5, 6)))
                    self.check(seen[number] == seen[near] and two[number] != two[near], ("hides", rule, other),
                               (number, near))
            for number in range(260):
                self.check(shown(rule, worth_of_shown(rule, number)) != seen[number], ("drifts", rule), number)

    def test_possible_columns_beside_showing_numbers(self):
        chance = random.Random(53)
        found = [0, 0]
        for rule in chance.sample(rules(SMALL, (1, 2, 3)), 80):
            for _ in range(20):
                numbers = [chance.randrange(60) for _ in range(chance.randrange(4))]
                rows = tuple(shown(rule, number) for number in numbers)
                total = shown(rule, sum(numbers) + chance.choice((0, 0, 0, 0, 1, 7)))
                paper = tuple(max(0, number + chance.choice((0, 0, 1, -1))) for number in numbers)
                told = (total == shown(rule, sum(paper)) and rows == tuple(shown(rule, number) for number in paper))
                self.check(told, ("possible", rule, rows, total), paper)
                found[told] += 1
        self.assertGreater(min(found), 200)

    def test_no_answer_takes_long(self):
        begin = time.perf_counter()
        rule, other = (FINE, 3, "even", True, 1000), (FINE, 3, "near", False, 1000)
        zero = written(rule, 5, 10 ** 24 - 1)
        for _ in range(30):
            for claim, _ in GOOD:
                things = {2: (rule,), 3: (rule, other), 4: (rule, (zero,) * 12, zero)}[len(claim)]
                for paper in ((), 10 ** 22, (10 ** 22, 10 ** 22 - 1), (10 ** 22,) * 12):
                    holds(claim[:1] + things, paper)
        self.assertLess(time.perf_counter() - begin, 10)


if __name__ == "__main__":
    unittest.main()
