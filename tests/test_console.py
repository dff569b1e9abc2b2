"""[3], [4], [102]: Consoles."""

import re
import unittest

from ownlog.books import Book
from ownlog.console import Console
from ownlog.far import Far
from ownlog.notation import read_far, read_tally
from ownlog.pasts import past
from ownlog.tallies import tally
from tests.helper import LETTERS, chance, counted, other_things, plain_pasts, random_row, refusal, written
from tests.test_books import plain_back, plain_call, plain_unwind
from tests.test_elders import THREE_ELDERS, made_rows
from tests.test_far import LONGEST
from tests.test_pasts import first_many
from tests.test_wishes import HUNDRED, plain_never

ROWS = ["row ab", "row zz", "row " + LETTERS, "row " + LONGEST]
COMMANDS = ["call 0", "call -1", "call 5000", "call " + "9" * 100, "call -" + "9" * 100, "back", "unwind", "show",
            "tally", "past", "begins a", "begins " + "a" * 12, "ends a", "ends " + "z" * 12, "stands a", "stands zzz",
            "stands " + "z" * 12, "call 10", "call -10"]
NO_ROWS = ["row", "row ", "row a", "row A", "row aB", "row ab ", " row ab", "row  ab", "row ab cd", "row ab\n",
           "row 12", "row " + "a" * 1001, "Row ab", "ROW ab", "rows ab", "row\nab", "rowab", "row -ab",
           "row " + "a" * 3996]
NO_CALLS = ["call", "call ", "call a", "call 0 ", " call 0", "call  0", "call 0 0", "call 00", "call 01", "call -0",
            "call -01", "call +1", "call 1.", "call 1e3", "call 1_0", "call 0x1", "call -", "call --1", "call - 1",
            "call 0\n", "call " + "9" * 101, "call -" + "9" * 101, "call 1" + "0" * 100, "call " + "9" * 3995,
            "call " + "0" * 3995, "Call 0", "calls 0", "call 0-", "call\n0"]
NO_OTHERS = ["", " ", "  ", "\n", "a", "ab", "back ", " back", "back 0", "back back", "Back", "back\n", "unwind ",
             "unwind 1", "unwinds", "show ", "show show", "show ab", "SHOW", "tally ", "tally ab", "tally a1", "tallys",
             "past ", "past ab", " past", "pasts", "past 1", "follow 1", "len", "copied", "shortest a begin", "help",
             "x" * 4000, " " * 4000, "show" + " " * 3996, "a b c d e f"]
NO_WISHES = [word + rest for word in ("begins", "ends", "stands")
             for rest in ("", " ", " A", " a b", "  a", " a ", " " + "a" * 13, " 1", " a1", " a\n", "a", " a-", " -")]
NO_COMMANDS = NO_ROWS + NO_CALLS + NO_OTHERS + NO_WISHES + ["begin a", "end a", "stand a", "Begins a", "begins\na"]


class PlainConsole:
    """What a Console should say, by the tests' own ways."""

    def __init__(self):
        self.row = None

    def say(self, line):
        """The answer, or the error as the document writes it."""
        if re.fullmatch("row [a-z]{2,1000}", line):
            self.row = line[4:]
            return self.row
        deed = re.fullmatch("(call) (0|-?[1-9][0-9]{0,99})|(begins|ends|stands) ([a-z]{1,12})", line)
        if not deed and line not in ("back", "unwind", "show", "tally", "past"):
            return "NoCommand()"
        if self.row is None:
            return "NoBook()"
        if not deed:
            return getattr(self, line)()
        if deed[1]:
            return self.done(plain_call(self.row, int(deed[2])), str)
        if len(self.row) > 100:
            return "TooLong(100)"
        where = {"begins": "begin", "ends": "end", "stands": "stand"}[deed[3]]
        return "never" if plain_never(self.row, deed[4], where) else "yes"

    def done(self, told, show):
        if isinstance(told, str):
            return told
        self.row = told[0]
        return show(told[1])

    def back(self):
        return self.done(plain_back(self.row), lambda places: " ".join(str(place) for place in places))

    def unwind(self):
        return self.done(plain_unwind(self.row), str)

    def show(self):
        return self.row

    def tally(self):
        return " ".join(f"{letter}{number}" for letter, number in counted(self.row))

    def past(self):
        several = first_many(self.row)
        if several is not None:
            return f"Several({several})"
        seed, story = plain_pasts(self.row)[0]
        return " ".join([seed] + [str(place) for place in story])


class Consoles(unittest.TestCase):

    def see(self, console, line, expected):
        """See that a line is answered, or refused so that nothing changes."""
        before = self.row_of(console)
        if expected.endswith(")"):
            self.assertEqual(refusal(console.say, line), expected, line[:50])
            self.assertEqual(self.row_of(console), before)
        else:
            answer = console.say(line)
            self.assertIsInstance(answer, str)
            self.assertEqual(answer, expected, line[:50])

    def row_of(self, console):
        """The row of the Book of a Console, or None."""
        if refusal(console.say, "show") == "NoBook()":
            return None
        return console.say("show")

    def with_row(self, row):
        console = Console()
        console.say("row " + row)
        return console

    def see_all(self, lines, plain=None, console=None):
        """See that a Console and a plain one say the same to some lines."""
        console = console or Console()
        plain = plain or PlainConsole()
        told = []
        for line in lines:
            expected = plain.say(line)
            self.see(console, line, expected)
            self.assertEqual(self.row_of(console), plain.row)
            told.append(expected)
        return told

    def test_what_is_no_string(self):
        for console in (Console(), self.with_row("abc")):
            row = self.row_of(console)
            for number, thing in enumerate(other_things() + [0, 1, ["show"], ("row", "ab"), b"show"]):
                self.assertEqual(refusal(console.say, thing), "Wrong(0)", f"thing {number}")
            for line in ("x" * 4001, " " * 4001, "row " + "a" * 3997, "show" + " " * 3997, "call " + "9" * 3996,
                         "\n" * 30000):
                self.assertEqual(refusal(console.say, line), "Wrong(0)")
            self.assertEqual(self.row_of(console), row)

    def test_lines_that_are_no_commands(self):
        # Before there is a Book, with one, and with one of which no wish is answered.
        for console in (Console(), self.with_row("abc"), self.with_row(LONGEST)):
            for line in NO_COMMANDS:
                self.see(console, line, "NoCommand()")
                self.assertEqual(PlainConsole().say(line), "NoCommand()")

    def test_no_book(self):
        console = Console()
        for line in COMMANDS:
            self.see(console, line, "NoBook()")
        for line in ROWS:
            console = Console()
            self.assertEqual(console.say(line), line[4:])
            self.assertEqual(console.say("show"), line[4:])

    def test_every_command(self):
        for row in ROWS:
            for line in COMMANDS:
                self.see_all([row, line, "show"] + ROWS + [row, line, "show"])

    def test_calls(self):
        for row in ("ab", "abc", LETTERS, LONGEST[:500], LONGEST[:501], LONGEST):
            for place in (0, 1, len(row) - 1, len(row), -1, 10 ** 100 - 1, 1 - 10 ** 100):
                told = self.see_all(["row " + row, f"call {place}", "show"])
                self.assertEqual(told[1], plain_call(row, place) if told[1].endswith(")") else row[place])
        console = self.with_row(LONGEST)
        self.see(console, "call 999", "TooLong(1000)")
        self.see(console, "call 1000", "NoPlace(1000)")

    def test_back_and_unwind(self):
        row = written("abc", [1, 3, 0])
        told = self.see_all(["row " + row, "back", "show", "unwind", "show", "back", "unwind", "show"])
        self.assertEqual(told[1:], ["0", written("abc", [1, 3]), "2", "abc", "NoElder()", "0", "abc"])
        told = self.see_all(["row ababababa", "past", "back", "show", "past", "back", "show", "past"])
        self.assertEqual(told[1:], ["Several(3)", "0 2 4", "ababa", "Several(2)", "0 2", "aba", "aba"])
        for row in THREE_ELDERS:
            told = self.see_all(["row " + row, "back", "unwind", "past", "show"])
            self.assertEqual(told[1:], ["Several(3)", "0", "Several(3)", row])

    def test_wishes(self):
        numbers = chance(1020)
        seen = []
        for row in [random_row(numbers, 7, 3) for _ in range(40)] + ["ab", "aa", HUNDRED]:
            lines = ["row " + row]
            for many in (1, 2, 3, 5):
                text = "".join(numbers.choice(row) for _ in range(many))
                lines += [f"{word} {text}" for word in ("begins", "ends", "stands")]
            seen += self.see_all(lines)[1:]
        self.assertGreater(min(seen.count("yes"), seen.count("never")), 50)
        for text in ("abbabaabbaab", "a" * 12, "b" * 12, "z" * 12):
            self.see_all(["row ab"] + [f"{word} {text}" for word in ("begins", "ends", "stands")])

    def test_wishes_of_rows_of_100_and_101_letters(self):
        for row in ("a" * 99 + "b", HUNDRED):
            for word in ("begins", "ends", "stands"):
                for text in ("a", row[0], row[-2:], "zzz", row[:12], row[-12:]):
                    self.assertIn(self.see_all(["row " + row, f"{word} {text}"])[1], ("yes", "never"))
                    for more in (row + "c", row + row, LONGEST):
                        self.see(self.with_row(more), f"{word} {text}", "TooLong(100)")
                self.see(self.with_row(row + "c"), f"{word} " + "a" * 13, "NoCommand()")

    def test_tallies_and_pasts_are_read_back(self):
        for row in list(made_rows(1021, 60, 9, 3, 5)) + [LONGEST, "a" * 999 + "b", LETTERS]:
            console = self.with_row(row)
            self.assertEqual(read_tally(console.say("tally")), tally(row))
            if first_many(row) is None:
                far = read_far(console.say("past"))
                self.assertEqual((far.row(), far.story()), past(row))
                self.assertEqual(far.piece(0, far.length()), row)
                self.assertEqual(self.row_of(console), row)

    def test_drawn_lines(self):
        numbers = chance(1022)
        seen = {}
        for _ in range(40):
            lines = ["row " + random_row(numbers, 9, 2)]
            for _ in range(25):
                line = numbers.choice(
                    ["back", "unwind", "show", "tally", "past", f"call {numbers.randint(-1, 9)}",
                     f"call {numbers.randint(0, 40)}", "row " + random_row(numbers, 20, 3), "begins ab", "ends aab",
                     "stands " + random_row(numbers, 5, 2), numbers.choice(NO_COMMANDS),
                     "row " + written("aabaaa", [1] + [0] * numbers.randint(0, 2))])
                lines.append(line)
            for told in self.see_all(lines[numbers.randint(0, 1):]):
                seen[told.partition("(")[0]] = True
        for error in ("NoCommand", "NoBook", "NoPlace", "NoElder", "Several", "yes", "never"):
            self.assertIn(error, seen)

    def test_two_consoles_and_two_books_side_by_side(self):
        one, other = Console(), Console()
        self.assertEqual(one.say("row abc"), "abc")
        self.see(other, "show", "NoBook()")
        self.assertEqual(other.say("row abc"), "abc")
        book = Book("abc")
        copy = book.copied()
        self.assertEqual([one.say("call 1"), other.say("show"), book.row()], ["b", "abc", "abc"])
        book.call(0)
        self.assertEqual([one.say("show"), other.say("show"), copy.row()], ["aabcc", "abc", "abc"])
        self.assertEqual([other.say("call 2"), other.say("unwind"), one.say("show")], ["c", "1", "aabcc"])
        self.assertEqual(read_far(one.say("past")), Far("abc", [1]))


if __name__ == "__main__":
    unittest.main()
