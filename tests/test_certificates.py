"""Claims that are true, with papers that show them."""

import random
import unittest

from shortfigures import certificates
from shortfigures.alike import first_drift, first_unlike
from shortfigures.certificates import certify_alike, certify_column, certify_steady, certify_tells
from shortfigures.checker import holds
from shortfigures.columns import column
from shortfigures.errors import InvalidFigure, InvalidTexts, NotALadder
from shortfigures.ladders import Ladder
from shortfigures.samples import sample_ladder
from shortfigures.tells import first_untold
from tests.oracle import LARGE, SMALL, THOUSANDS, rules, shown, small_variants, variants
from tests.test_show import made
from tests.values import NO_FIGURES, NO_LADDERS, UNSHOWN, ErrorCase

NEAR = Ladder(THOUSANDS, 1, "near")
EVEN = Ladder(THOUSANDS, 1, "even")
PLAIN = Ladder(THOUSANDS, 0, "near")
CUT = Ladder(THOUSANDS, 1, "near", carry=False)
TALL = (("", 1), ("E", 10 ** 18))


class CertificatesTest(unittest.TestCase):

    def check(self, expected, told):
        self.assertEqual(expected, told)
        self.assertEqual((tuple, tuple), (told.__class__, told[0].__class__))
        self.assertIs(True, holds(*told))

    def test_alike(self):
        down = Ladder(THOUSANDS, 1, "down")
        other = Ladder(THOUSANDS, 1, "down", carry=False)
        self.check((("alike", down.told, other.told), ()), certify_alike(down, other))
        self.check((("alike", NEAR.told, NEAR.told), ()), certify_alike(NEAR, sample_ladder()))
        self.check((("unlike", NEAR.told, EVEN.told), 1050), certify_alike(NEAR, EVEN))
        self.check((("unlike", EVEN.told, NEAR.told), 1050), certify_alike(EVEN, NEAR))
        self.check((("unlike", NEAR.told, CUT.told), 999950), certify_alike(NEAR, CUT))

    def test_steady(self):
        self.check((("steady", NEAR.told), ()), certify_steady(NEAR))
        self.check((("drifts", CUT.told), 999950), certify_steady(CUT))
        self.check((("drifts", (THOUSANDS, 1, "up", False, 7)), 6999901),
                   certify_steady(Ladder(THOUSANDS, 1, "up", carry=False, least=7)))

    def test_tells(self):
        self.check((("tells", CUT.told, NEAR.told), ()), certify_tells(CUT, NEAR))
        self.check((("hides", NEAR.told, CUT.told), (999999, 10 ** 6)), certify_tells(NEAR, CUT))
        self.check((("hides", NEAR.told, PLAIN.told), (1499, 1500)), certify_tells(NEAR, PLAIN))
        self.check((("hides", PLAIN.told, NEAR.told), (1049, 1050)), certify_tells(PLAIN, NEAR))

    def test_columns(self):
        rows = ("1.0K", "1.0K")
        self.check((("impossible", NEAR.told, rows, "2.2K"), ()), certify_column(NEAR, rows, "2.2K"))
        self.check((("impossible", NEAR.told, (), "1"), ()), certify_column(NEAR, (), "1"))
        self.check((("possible", NEAR.told, (), "0"), ()), certify_column(NEAR, (), "0"))
        self.check((("possible", NEAR.told, ("7", "8"), "15"), (7, 8)), certify_column(NEAR, ("7", "8"), "15"))
        claim, paper = certify_column(NEAR, rows, "2.1K")
        self.check((("possible", NEAR.told, rows, "2.1K"), paper), (claim, paper))
        self.assertEqual([2, "1.0K", "1.0K", "2.1K"],
                         [len(paper), *[shown(NEAR.told, number) for number in paper], shown(NEAR.told, sum(paper))])
        for text in UNSHOWN:
            self.check((("impossible", NEAR.told, (text,), "1.0K"), ()), certify_column(NEAR, (text,), "1.0K"))
            self.check((("impossible", NEAR.told, rows, text), ()), certify_column(NEAR, rows, text))

    def test_beyond_the_largest_number(self):
        one, two = Ladder(TALL, 0, "near"), Ladder(TALL, 0, "down")
        self.check((("unlike", one.told, two.told), 15 * 10 ** 17), certify_alike(one, two))
        self.check((("hides", two.told, one.told), (15 * 10 ** 17 - 1, 15 * 10 ** 17)), certify_tells(two, one))
        far = Ladder(THOUSANDS[:2] + (("E", 10 ** 18),), 1, "up", carry=False, least=1000)
        self.check((("drifts", far.told), 10 ** 21 - 99), certify_steady(far))
        text = "9" * 23 + ".9M"
        claim, paper = certify_column(NEAR, (text,), text)
        self.check((("possible", NEAR.told, (text,), text), paper), (claim, paper))

    def test_beside_the_answers_of_the_other_files(self):
        chance = random.Random(54)
        for rule in chance.sample(rules(SMALL, (1, 3)), 60) + rules(LARGE, (1, 1000))[::5]:
            ladder = made(rule)
            for other in chance.sample(variants(rule), 3) + [rule] + chance.sample(small_variants(rule) or [rule], 1):
                other = made(other)
                first = first_unlike(ladder, other)
                word, paper = ("alike", ()) if first is None else ("unlike", first)
                self.check(((word, ladder.told, other.told), paper), certify_alike(ladder, other))
                pair = first_untold(ladder, other)
                word, paper = ("tells", ()) if pair is None else ("hides", pair)
                self.check(((word, ladder.told, other.told), paper), certify_tells(ladder, other))
            first = first_drift(ladder)
            word, paper = ("steady", ()) if first is None else ("drifts", first)
            self.check(((word, ladder.told), paper), certify_steady(ladder))

    def test_columns_beside_what_they_tell(self):
        chance = random.Random(55)
        words = {}
        for rule in rules(LARGE, (1, 10))[::3]:
            for _ in range(6):
                numbers = [chance.randrange(10 ** chance.randrange(1, 19)) for _ in range(chance.randrange(13))]
                rows = tuple(shown(rule, number) for number in numbers)
                total = shown(rule, sum(numbers) + chance.choice((0, 0, 100, 10 ** 6, 10 ** 18)))
                told = certify_column(made(rule), rows, total)
                word = "impossible" if column(made(rule), rows, total) is None else "possible"
                self.check(((word, rule, rows, total), told[1]), told)
                if word == "possible":
                    self.assertEqual(rows, tuple(shown(rule, number) for number in told[1]))
                    self.assertEqual(total, shown(rule, sum(told[1])))
                words[word] = words.get(word, 0) + 1
        self.assertGreater(min(words["possible"], words["impossible"]), 30)


class ArgumentsTest(ErrorCase):

    def test_by_keyword(self):
        self.assertEqual(certify_alike(NEAR, EVEN), certify_alike(other=EVEN, ladder=NEAR))
        self.assertEqual(certify_steady(CUT), certify_steady(ladder=CUT))
        self.assertEqual(certify_tells(NEAR, PLAIN), certify_tells(other=PLAIN, ladder=NEAR))
        self.assertEqual(certify_column(NEAR, ("5",), "5"), certify_column(total="5", texts=("5",), ladder=NEAR))

    def test_equal_calls(self):
        for total in ("2.0K", "2.1K"):
            self.assertEqual(certify_column(NEAR, ("1.0K", "1.0K"), total),
                             certify_column(sample_ladder(), ("1.0K",) * 2, total))

    def test_no_ladder(self):
        for value in NO_LADDERS:
            with self.subTest(value=value):
                for act in (certify_alike, certify_tells):
                    self.assert_value(NotALadder, value, act, value, NEAR)
                    self.assert_value(NotALadder, value, act, NEAR, value)
                    self.assert_value(NotALadder, value, act, value, "other")
                    self.assert_value(NotALadder, value, act, other=None, ladder=value)
                    self.assert_value(NotALadder, value, act, other=value, ladder=NEAR)
                self.assert_value(NotALadder, value, certify_steady, value)
                self.assert_value(NotALadder, value, certify_steady, ladder=value)
                self.assert_value(NotALadder, value, certify_column, value, ("1.0K",), "1.0K")
                self.assert_value(NotALadder, value, certify_column, value, None, None)
                self.assert_value(NotALadder, value, certify_column, total="no", texts=("no",), ladder=value)

    def test_no_texts(self):
        self.assert_bad_texts(InvalidTexts, lambda texts: certify_column(NEAR, texts, "1.0K"))
        self.assert_bad_texts(InvalidTexts, lambda texts: certify_column(total=None, texts=texts, ladder=NEAR))

    def test_no_total(self):
        for value in NO_FIGURES:
            with self.subTest(value=value):
                self.assert_value(InvalidFigure, value, certify_column, NEAR, ("1.0K",), value)
                self.assert_value(InvalidFigure, value, certify_column, NEAR, ("0.5K",), value)
                self.assert_value(InvalidFigure, value, certify_column, total=value, texts=(), ladder=NEAR)

    def test_defined_where_they_are_listed(self):
        for name in ("certify_alike", "certify_steady", "certify_tells", "certify_column"):
            self.assertEqual("shortfigures.certificates", getattr(certificates, name).__module__)


if __name__ == "__main__":
    unittest.main()
