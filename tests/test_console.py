"""A console, beside the book that it answers with."""

import random
import unittest

from shortfigures import console as console_file
from shortfigures.books import Book
from shortfigures.console import Console
from shortfigures.errors import InputError, InvalidLine, NotALadder, SizeError, StateError
from shortfigures.ladders import Ladder
from shortfigures.samples import sample_ladder
from tests.oracle import THOUSANDS, shown, telling_numbers
from tests.test_show import made
from tests.twins import CHOSEN, Twins, some_deed
from tests.values import NO_FIGURES, NO_LADDERS, UNSHOWN, ErrorCase, odd_values

FORMS = {"add": "w", "change": "nw", "remove": "n", "expect": "w", "forget": "", "undo": "", "rows": "", "range": "n",
         "show": "n"}


def ends(pair):
    return f"{pair[0]}-{pair[1]}"


class ConsoleCase(ErrorCase):

    def says(self, console, *told):
        """Say lines, each with the answer that is expected."""
        for line, answer in told:
            self.assertEqual(answer, console.say(line), line)

    def state(self, console):
        """Return all that can be heard about the book of a console, what can be undone included, and spend it."""
        heard = []
        while True:
            heard.append([console.say("rows")] + [console.say(f"range {place}") for place in range(13)])
            heard.append(console.say("undo"))
            if heard[-1] == "refused":
                return heard


class OrdinaryLinesTest(ConsoleCase):

    def test_deeds(self):
        self.says(Console(sample_ladder()), ("add 1.0K", "1000-1049"), ("add 1.0K", "2000-2098"),
                  ("expect 2.2K", "refused"), ("expect 2.1K", "2050-2098"), ("range 0", "1001-1049"),
                  ("change 0 1.1K", "2050-2149"), ("forget", "2050-2198"), ("remove 1", "1050-1149"), ("rows", "1.1K"),
                  ("undo", "2050-2198"), ("undo", "2050-2149"), ("undo", "2050-2098"), ("undo", "2000-2098"),
                  ("undo", "1000-1049"), ("undo", "0-0"), ("undo", "refused"), ("rows", "none"))

    def test_a_new_console(self):
        self.says(Console(sample_ladder()), ("rows", "none"), ("undo", "refused"), ("range 0", "refused"),
                  ("remove 0", "refused"), ("change 0 5", "refused"), ("forget", "0-0"), ("undo", "0-0"),
                  ("undo", "refused"), ("expect 1", "refused"), ("expect 0", "0-0"), ("add 1", "refused"),
                  ("add 0", "0-0"), ("rows", "0"))

    def test_rows(self):
        console = Console(sample_ladder())
        for many, text in enumerate(("1.0K", "7", "1.0M", "1.0K")):
            console.say("add " + text)
            self.assertEqual(many + 1, len(console.say("rows").split(" ")))
        self.says(console, ("rows", "1.0K 7 1.0M 1.0K"), ("remove 1", "1001950-1052097"), ("rows", "1.0K 1.0M 1.0K"))

    def test_ranges(self):
        console = Console(sample_ladder())
        self.says(console, ("add 1.0K", "1000-1049"), ("add 7", "1007-1056"), ("range 0", "1000-1049"),
                  ("range 1", "7-7"),
                  ("range 2", "refused"), ("range 12", "refused"), ("range 99999999999999999999", "refused"),
                  ("expect 1.1K", "1050-1056"), ("range 0", "1043-1049"), ("range 1", "7-7"), ("forget", "1007-1056"),
                  ("range 0", "1000-1049"))

    def test_show(self):
        console = Console(sample_ladder())
        self.says(console, ("show 0", "0"), ("show 7", "7"), ("show 999", "999"), ("show 1049", "1.0K"),
                  ("show 999950", "1.0M"), ("show 1000000000000000000", "1000000000000.0M"),
                  ("show 1000000000000000001", "refused"), ("show 9999999999999999999", "refused"),
                  ("show 99999999999999999999", "refused"), ("rows", "none"))
        for rule in CHOSEN[::7]:
            console = Console(made(rule))
            for number in telling_numbers(rule)[::5]:
                self.says(console, (f"show {number}", shown(rule, number)))

    def test_twelve_rows_and_one_more(self):
        console = Console(sample_ladder())
        for many in range(12):
            self.says(console, ("add 5", f"{5 * many + 5}-{5 * many + 5}"))
        self.says(console, ("add 5", "refused"), ("add 0", "refused"), ("range 11", "5-5"), ("range 12", "refused"),
                  ("rows", " ".join(["5"] * 12)), ("change 11 6", "61-61"), ("change 12 6", "refused"),
                  ("remove 12", "refused"), ("remove 11", "55-55"))

    def test_the_largest_numbers_of_places(self):
        console = Console(sample_ladder())
        console.say("add 5")
        for place in ("1", "12", "1000000000", "1000000000000000001", "99999999999999999999"):
            self.says(console, (f"range {place}", "refused"), (f"remove {place}", "refused"),
                      (f"change {place} 5", "refused"))
        self.says(console, ("rows", "5"))

    def test_large_figures(self):
        text = "9" * 23 + ".9M"
        low = (10 ** 24 - 1) * 10 ** 5 - 50000
        self.says(Console(sample_ladder()), (f"add {text}", f"{low}-{low + 99999}"),
                  (f"expect {text}", f"{low}-{low + 99999}"), ("range 0", f"{low}-{low + 99999}"), ("rows", text),
                  ("add 1" + "0" * 24, "refused"))

    def test_words_that_are_no_figures(self):
        console = Console(sample_ladder())
        self.says(console, ("add 1.0K", "1000-1049"), ("expect 1.0K", "1000-1049"))
        words = [value for value in NO_FIGURES if isinstance(value, str) and value and " " not in value]
        words += ["add", "none", "-", "refused", "\t", "\n", "1.0K\n", "\n1.0K", "1.0K\t", "\u00a0", "x" * 190,
                  *UNSHOWN]
        for word in words:
            self.says(console, (f"add {word}", "refused"), (f"change 0 {word}", "refused"),
                      (f"expect {word}", "refused"))
        self.says(console, ("rows", "1.0K"), ("range 0", "1000-1049"), ("undo", "1000-1049"), ("undo", "0-0"),
                  ("undo", "refused"))

    def test_two_consoles_do_not_change_one_another(self):
        ladder = sample_ladder()
        one, two = Console(ladder), Console(ladder)
        self.says(one, ("add 5", "5-5"), ("add 6", "11-11"))
        self.says(two, ("rows", "none"), ("undo", "refused"), ("add 7", "7-7"), ("expect 7", "7-7"))
        self.says(one, ("rows", "5 6"), ("add 1", "12-12"), ("undo", "11-11"))
        self.says(two, ("rows", "7"), ("undo", "7-7"), ("undo", "0-0"), ("undo", "refused"))
        self.says(one, ("rows", "5 6"))

    def test_a_console_is_true(self):
        self.assertIs(True, bool(Console(sample_ladder())))

    def test_by_keyword(self):
        console = Console(ladder=sample_ladder())
        self.assertEqual("5-5", console.say(line="add 5"))

    def test_defined_where_it_is_listed(self):
        self.assertEqual("shortfigures.console", console_file.Console.__module__)
        self.assertIn("say", Console.__dict__)
        self.assertIn("__init__", Console.__dict__)


class WrongLinesTest(ConsoleCase):

    def setUp(self):
        self.console = Console(sample_ladder())
        self.says(self.console, ("add 1.0K", "1000-1049"), ("add 5", "1005-1054"), ("expect 1.0K", "1005-1049"))

    def tearDown(self):
        """Whatever was said, nothing has changed."""
        other = Console(sample_ladder())
        self.says(other, ("add 1.0K", "1000-1049"), ("add 5", "1005-1054"), ("expect 1.0K", "1005-1049"))
        self.assertEqual(self.state(other), self.state(self.console))

    def wrong(self, *lines):
        for line in lines:
            with self.subTest(line=line):
                self.assert_value(InvalidLine, line, self.console.say, line)
                self.assert_value(InvalidLine, line, self.console.say, line=line)

    def right(self, word):
        """Return a line with this word that has its form."""
        return " ".join([word] + ["0" if part == "n" else "5" for part in FORMS[word]])

    def test_no_string(self):
        self.wrong(5, True, ["rows"], ("add", "5"), b"rows", sample_ladder(), *odd_values())

    def test_no_form(self):
        self.wrong("", " ", "  ", "\n", "no", "add", "change", "remove", "expect", "range", "show", "total", "list",
                   "5", "1.0K", "help", "do_all", "trial", "within", "ADD 5", "Add 5", "Rows", "ROWS", "rowS", "ad 5",
                   "adds 5", "sum", "texts", "row", "undo undo", "show", "none", "0", "-")

    def test_too_few_and_too_many_words(self):
        for word, form in FORMS.items():
            line = self.right(word)
            self.wrong(line + " 5", line + " 0", line + " 5 5", line + " no")
            if form:
                self.wrong(line.rpartition(" ")[0], word)

    def test_spaces(self):
        for word in FORMS:
            line = self.right(word)
            self.wrong(" " + line, line + " ", "  " + line, line + "  ", " " + line + " ", word + "  ", word + " ")
            if " " in line:
                self.wrong(line.replace(" ", "  ", 1), line.replace(" ", "  "), line.replace(" ", ""),
                           line.replace(" ", "\t", 1), line.replace(" ", "\n", 1), line.replace(" ", "_", 1),
                           line.replace(" ", "\u00a0", 1), line.replace(" ", "   ", 1))
        self.wrong("change 0  5", "change  0 5", "change 0 5 ", "change 0 ", "change  5", "add  5", "add 1.0 K")

    def test_other_signs_around(self):
        for word in FORMS:
            line = self.right(word)
            for sign in ("\n", "\t", "\r", "\0", ".", "x"):
                self.wrong(sign + line)
                if not FORMS[word].endswith("w"):
                    self.wrong(line + sign)

    def test_numbers_that_are_none(self):
        for text in ("-0", "-1", "+1", "+0", "00", "01", "000", "007", "0x1", "1e3", "1.0", "1,000", "1_000", "one",
                     "x", "1K",
                     "0 ", "\u0661", "\u00b2", "\uff11", "1\u0661", "", "1\n", "-", "0.", "1" + "0" * 20, "9" * 21,
                     "9" * 30, "0" * 20, "0" * 21, "1" * 150):
            self.wrong(f"remove {text}", f"range {text}", f"show {text}", f"change {text} 5")

    def test_20_digits(self):
        most = "9" * 20
        self.says(self.console, (f"show {most}", "refused"), (f"range {most}", "refused"),
                  (f"remove {most}", "refused"), (f"change {most} 5", "refused"), ("show 1" + "0" * 19, "refused"))
        self.wrong(f"show {most}0", f"range 1{most}", f"remove {most}9", f"change {most}0 5")

    def test_refused_lines_change_nothing(self):
        for line in ("add 1.0K", "add 45", "add no", "add 0.5K", "change 0 1.1K", "change 1 60", "change 2 5",
                     "change 0 no",
                     "change 0 0.5K", "remove 0", "remove 2", "expect 1.1M", "expect no", "expect 0.5K", "expect 0",
                     "range 2", "show 1000000000000000001"):
            self.says(self.console, (line, "refused"))

    def test_questions_change_nothing(self):
        self.says(self.console, ("rows", "1.0K 5"), ("range 0", "1000-1044"), ("range 1", "5-5"), ("show 5", "5"))


class LadderTest(ConsoleCase):

    def test_no_ladder(self):
        for value in NO_LADDERS:
            self.assert_value(NotALadder, value, Console, value)
            self.assert_value(NotALadder, value, Console, ladder=value)

    def test_other_ladders(self):
        self.says(Console(Ladder((("x", 1),), 0, "up")), ("add 5", "refused"), ("add 5x", "5-5"), ("rows", "5x"),
                  ("show 1000000000000000000", "1000000000000000000x"))
        self.says(Console(Ladder(THOUSANDS, 0, "up", carry=False)), ("show 999001", "1000K"),
                  ("add 1000K", "999001-999999"),
                  ("add 2M", "1999002-2999999"), ("expect 2M", "1999002-2000000"), ("range 1", "1000001-1000999"))


class BesideABookTest(ConsoleCase):

    def line_of(self, deed):
        """Return the line for a deed, or None if there is none."""
        if deed == ("expect", None):
            return "forget"
        line = " ".join(str(part) for part in deed)
        fits = all(isinstance(part, str) and part and " " not in part if kind == "w"
                   else not isinstance(part, bool) and isinstance(part, int) and 0 <= part < 10 ** 20
                   for part, kind in zip(deed[1:], FORMS[deed[0]]))
        return line if fits else None

    def test_some_hundred_lines(self):
        chance = random.Random(71)
        answers = {"refused": 0, "done": 0}
        for rule in CHOSEN:
            # The deeds are those that suit the rows so far, which a book shows beside a list.
            twins, console = Twins(self, rule), Console(made(rule))
            for _ in range(40):
                deed = some_deed(chance, twins)
                line = self.line_of(deed)
                if chance.random() < 0.15:
                    refused = not twins.past
                    twins.undo()
                    self.says(console, ("undo", "refused" if refused else ends(twins.book.sum)))
                elif line is None:
                    continue
                else:
                    before = twins.state()
                    twins.do(deed)
                    refused = before == twins.state()
                    self.says(console, (line, "refused" if refused else ends(twins.book.sum)))
                    answers["refused" if refused else "done"] += 1
                book = twins.book
                self.says(console, ("rows", " ".join(book.texts) or "none"),
                          *[(f"range {place}", ends(pair)) for place, pair in enumerate(book.ranges)],
                          (f"range {len(book)}", "refused"))
        self.assertGreater(min(answers.values()), 100)

    def test_with_a_book_that_gets_the_same_deeds(self):
        book, console = Book(sample_ladder()), Console(sample_ladder())
        for deed in (("add", "1.0K"), ("add", "7"), ("expect", "1.1K"), ("change", 1, "60"), ("add", "1.0K"),
                     ("add", "no"),
                     ("remove", 0), ("expect", "0.5K"), ("expect", None), ("remove", 5), ("remove", 1), ("add", "0")):
            try:
                book.do_all(deed)
                answer = ends(book.sum)
            except (InputError, StateError, SizeError):
                answer = "refused"
            self.says(console, (self.line_of(deed), answer), ("rows", " ".join(book.texts)))


if __name__ == "__main__":
    unittest.main()
