"""[101]: long rows and tallies as words, there and back."""

import re
import unittest

from ownlog.far import Far
from ownlog.notation import read_far, read_tally, show_far, show_tally
from tests.helper import LETTERS, chance, random_row, random_story, refusal, same_after
from tests.test_far import LONGEST, far_ones, samples

PLAIN = re.compile("0|[1-9][0-9]*")


def plain_far(text):
    """The row and the story that a text shows, or the error."""
    words = text.split(" ")
    if not re.fullmatch("[a-z]{2,1000}", words[0]):
        return "NoText(0)"
    last = len(words[0]) - 1
    for at, word in enumerate(words[1:], 1):
        if not PLAIN.fullmatch(word) or len(word) > 50 or int(word) > last or at > 64:
            return f"NoText({at})"
        last = 2 * last
    return words[0], [int(word) for word in words[1:]]


def plain_tally(text):
    """The tally that a text shows, or the error."""
    found = []
    for at, word in enumerate(text.split(" ")):
        if not re.fullmatch("[a-z][1-9][0-9]{0,40}", word) or int(word[1:]) > 10 ** 40:
            return f"NoText({at})"
        if found and found[-1][0] >= word[0]:
            return f"NoText({at})"
        found.append((word[0], int(word[1:])))
    return found


def random_tally(numbers):
    letters = sorted(numbers.sample(LETTERS, numbers.choice([1, 2, 3, 26, numbers.randint(1, 26)])))
    return [(letter, numbers.choice([1, 2, 9, 10, 10 ** 40, 10 ** 40 - 1, numbers.randint(1, 10 ** 40)]))
            for letter in letters]


def spoiled(numbers, text):
    """A text with one change: of a word, or of a sign."""
    words = text.split(" ")
    at = numbers.randrange(len(words))
    other = numbers.randrange(len(words))
    deed = numbers.randrange(12)
    if deed == 0:
        del words[at]
    elif deed == 1:
        words.insert(at, words[at])
    elif deed == 2:
        words[at] = numbers.choice(["", "0", "1", "a", "ab", "a1", "z9", "-1", "-0", "00", "01", "+1", "1_0", "0x1",
                                    "1.", "9" * 50, "9" * 3000, "b0", "c01", "A1", "a1b", "\n", "1\n", "a1\n", "1e5",
                                    "abc"])
    elif deed == 3:
        words.insert(at, numbers.choice(["0", "1", "a1", "z1", "ab", ""]))
    elif deed == 4:
        words[at], words[other] = words[other], words[at]
    elif deed == 5:
        words[at] = numbers.choice(["0", "-", "+", "a", "9"]) + words[at]
    elif deed == 6:
        words[at] = words[at] + numbers.choice(["0", "-", " ", "a", "9", "\n", "."])
    elif deed == 7:
        return " " + text
    elif deed == 8:
        return text + " "
    elif deed == 9:
        return text.replace(" ", "  ", 1)
    elif deed == 10:
        return text.replace(" ", "\n", 1)
    else:
        at = numbers.randrange(len(text) + 1)
        return text[:at] + numbers.choice(["", "0", "7", "b", "-", " ", "\n", "~"]) + text[at + numbers.randint(0, 1):]
    return " ".join(words)


class Fars(unittest.TestCase):

    def see(self, text):
        """See that a text is read as the point says."""
        expected = plain_far(text)
        if isinstance(expected, str):
            self.assertEqual(refusal(read_far, text), expected, text)
        else:
            far = read_far(text)
            self.assertIsInstance(far, Far)
            self.assertEqual([far.row(), far.story()], list(expected))
            self.assertEqual(show_far(far), text)
        return expected

    def test_there_and_back(self):
        for row, story in list(samples(1010, 80, 64, 40)) + list(far_ones(1011, 3)):
            far = Far(row, story)
            text = show_far(far)
            self.assertEqual(text, " ".join([row] + [f"{place:d}" for place in story]))
            self.assertEqual(read_far(text), far)
            self.assertEqual(far, Far(row, story))
            self.assertEqual(self.see(text), (row, story))

    def test_rows_of_2_and_of_1000_letters(self):
        for row in ("ab", "zz", LONGEST, "a" * 1000):
            last = len(row) - 1
            for story in ([], [0], [last], [0] * 64, [last * 2 ** at for at in range(64)]):
                self.assertEqual(read_far(show_far(Far(row, story))), Far(row, story))
        self.assertEqual(show_far(Far("ab", [])), "ab")

    def test_places_beyond_the_bound(self):
        for row in ("ab", "abc", LONGEST):
            story = []
            last = len(row) - 1
            for at in range(64):
                text = show_far(Far(row, story))
                self.assertEqual(read_far(f"{text} {last}"), Far(row, story + [last]))
                for word in (last + 1, 10 * last, -1, 10 ** 99):
                    self.assertEqual(refusal(read_far, f"{text} {word}"), f"NoText({at + 1})")
                    self.assertEqual(refusal(read_far, f"{text} {word} x"), f"NoText({at + 1})")
                story.append((0, last, last // 2)[at % 3])
                last = 2 * last
            text = show_far(Far(row, story))
            for more in (" 0", " 0 0", " 1", " x", " "):
                self.assertEqual(refusal(read_far, text + more), "NoText(65)")

    def test_other_texts(self):
        for text, at in [("", 0), (" ", 0), ("\n", 0), ("a", 0), ("A", 0), ("ab\n", 0), ("1", 0), (" ab", 0),
                         ("ab ", 1), ("ab  0", 1), ("ab 0  0", 2), ("ab 0 ", 2), ("ab 00", 1), ("ab 01", 1),
                         ("ab -0", 1), ("ab +0", 1), ("ab -1", 1), ("ab 2", 1), ("ab a", 1), ("ab ab", 1),
                         ("ab 0\n", 1), ("ab\n0", 0), ("ab 1_0", 1), ("a" * 1001, 0), ("aB 0", 0), ("ab 0 3", 2),
                         ("ab 0 2 5 5", 3), ("ab,0", 0), ("ab 1 1 1 1 x 99", 5), ("a" * 4000, 0),
                         ("ab " + "9" * 3997, 1), ("ab " + "0" * 3997, 1), ("ab " + "0 " * 1998, 65), ("a0", 0),
                         ("0 ab", 0), ("ab 0.", 1), (" " * 4000, 0)]:
            self.assertEqual(refusal(read_far, text), f"NoText({at})", text[:40])
            self.assertEqual(plain_far(text), f"NoText({at})")

    def test_spoiled_texts(self):
        numbers = chance(1012)
        seen = []
        for _ in range(1500):
            row = random_row(numbers, 6, 3)
            text = show_far(Far(row, random_story(numbers, row, numbers.choice([0, 1, 2, 5, 64]))))
            for _ in range(numbers.choice([1, 1, 2])):
                text = spoiled(numbers, text)
            seen.append(isinstance(self.see(text), str))
        self.assertGreater(seen.count(True), 500)
        self.assertGreater(seen.count(False), 100)


class Tallies(unittest.TestCase):

    def see(self, text):
        """See that a text is read as the point says."""
        expected = plain_tally(text)
        if isinstance(expected, str):
            self.assertEqual(refusal(read_tally, text), expected, text)
        else:
            self.assertEqual(read_tally(text), expected)
            self.assertEqual(show_tally(expected), text)
        return expected

    def test_there_and_back(self):
        numbers = chance(1013)
        for _ in range(200):
            tally = random_tally(numbers)
            text = same_after(self, show_tally, tally)
            self.assertEqual(text, " ".join(letter + str(number) for letter, number in tally))
            self.assertEqual(read_tally(text), tally)
            self.assertEqual(self.see(text), tally)

    def test_every_letter_and_the_bounds(self):
        for letter in LETTERS:
            for number in (1, 9, 10, 10 ** 40):
                self.assertEqual(read_tally(f"{letter}{number}"), [(letter, number)])
            for word in (letter, letter + "0", f"{letter}{10 ** 40 + 1}", f"{letter}{10 ** 41}", f"{letter}-1",
                         letter + "01", letter.upper() + "1", letter + "1" + letter, letter + letter, letter + "+1"):
                self.assertEqual(refusal(read_tally, word), "NoText(0)")
                self.assertEqual(refusal(read_tally, word + " z1"), "NoText(0)")
        full = [(letter, 10 ** 40) for letter in LETTERS]
        self.assertEqual(read_tally(show_tally(full)), full)
        for more in (" a1", " z1", " zz1", " "):
            self.assertEqual(refusal(read_tally, show_tally(full) + more), "NoText(26)")

    def test_letters_ascend(self):
        for text, at in [("a1 a1", 1), ("b1 a1", 1), ("a1 c1 b1", 2), ("a1 b1 b2 c3", 2), ("z1 a1 b1", 1),
                         ("a1 a2", 1)]:
            self.assertEqual(refusal(read_tally, text), f"NoText({at})")

    def test_other_texts(self):
        for text, at in [("", 0), (" ", 0), ("\n", 0), ("a", 0), ("1", 0), ("1a", 0), (" a1", 0), ("a1 ", 1),
                         ("a1  b1", 1), ("a1\n", 0), ("a1\nb1", 0), ("a1 b", 1), ("a 1", 0), ("a1,b1", 0), ("A1", 0),
                         ("`1", 0), ("{1", 0), ("a1_0", 0), ("a1 b1 c", 2), ("a1 b1.", 1), ("a" * 4000, 0),
                         ("a" + "9" * 3999, 0), ("a" + "0" * 3999, 0), ("a1" + " " * 3998, 1),
                         ("a1 " + "b" + "1" * 3990, 1), ("ab1", 0)]:
            self.assertEqual(refusal(read_tally, text), f"NoText({at})", text[:40])
            self.assertEqual(plain_tally(text), f"NoText({at})")

    def test_spoiled_texts(self):
        numbers = chance(1014)
        seen = []
        for _ in range(1500):
            text = show_tally(random_tally(numbers)[:numbers.randint(1, 6)])
            for _ in range(numbers.choice([1, 1, 2])):
                text = spoiled(numbers, text)
            seen.append(isinstance(self.see(text), str))
        self.assertGreater(seen.count(True), 500)
        self.assertGreater(seen.count(False), 100)

    def test_returned_lists_are_new(self):
        told = read_tally("a1 b2")
        told.append(("z", 1))
        self.assertEqual(read_tally("a1 b2"), [("a", 1), ("b", 2)])


if __name__ == "__main__":
    unittest.main()
