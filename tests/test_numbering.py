"""[6], [9], [70], [71]: how many rows calls made, and their numbers."""

import itertools
import time
import unittest

from ownlog.numbering import number_of, row_of, rows_many, seeds_many
from tests.helper import LETTERS, all_stories, chance, plain_elders, random_story, refusal, same_after, written

GREAT = 10 ** 99
SIZES = [(2, 9), (3, 6), (4, 5)]


def all_rows(letters, length):
    return ["".join(row) for row in itertools.product(LETTERS[:letters], repeat=length)]


def numbered(letters, length, calls):
    """The rows with different ends that so many calls really make, in the order of the start and the story."""
    last = length - 1
    if last % 2 ** calls != 0:
        return []
    starts = [row for row in all_rows(letters, last // 2 ** calls + 1) if row[0] != row[-1]]
    return [late for start in starts for _, late in all_stories(start, calls)]


def made_by(row):
    """The number of calls that made a row whose ends differ, by going back."""
    many = 0
    found = plain_elders(row)
    while found:
        many += 1
        found = plain_elders(found[0][0])
    return many


class Small(unittest.TestCase):

    def test_all_rows(self):
        for letters, most in SIZES:
            for length in range(2, most + 1):
                rows = [row for row in all_rows(letters, length) if row[0] != row[-1]]
                self.assertEqual(seeds_many(letters, length), len([row for row in rows if made_by(row) == 0]))
                for calls in (0, 1, 2, 3, 4, 63, 64):
                    expected = len([row for row in rows if made_by(row) >= calls])
                    self.assertEqual(rows_many(letters, length, calls), expected)

    def test_numbers_and_rows(self):
        for letters, most in SIZES:
            for length in range(2, most + 1):
                for calls in range(5):
                    rows = numbered(letters, length, calls)
                    many = rows_many(letters, length, calls)
                    self.assertEqual(len(set(rows)), many)
                    self.assertEqual([row_of(letters, length, calls, number) for number in range(many)], rows)
                    numbers = {row: number for number, row in enumerate(rows)}
                    for row in all_rows(letters, length):
                        self.assertEqual(same_after(self, number_of, letters, row, calls), numbers.get(row))
                    for number in (many, many + 1, 2 * many + 7, GREAT):
                        self.assertEqual(refusal(row_of, letters, length, calls, number), f"NoNumber({number})")

    def test_rows_with_letters_beyond_the_first_few(self):
        for letters in (2, 3, 25):
            beyond = LETTERS[letters]
            for row in ("a" + beyond, beyond + "a", "a" + beyond + "b", "ab" + beyond, "aab" + beyond * 2, "z" + "ab",
                        "az", "abbz", "a" * 59 + beyond):
                for calls in (0, 1, 2):
                    self.assertIsNone(number_of(letters, row, calls))
        self.assertEqual(number_of(3, "ac", 0), 1)
        self.assertEqual([number_of(26, "az", 0), number_of(26, "zy", 0), number_of(25, "az", 0)], [24, 649, None])

    def test_equal_ends(self):
        for row in ("aa", "aba", "aaa", "a" * 60, "abba", "aabaa", "aabaaaabaaa"):
            for calls in range(4):
                self.assertIsNone(number_of(2, row, calls))
                self.assertIsNone(number_of(26, row, calls))

    def test_rows_made_by_fewer_calls(self):
        for start in ("ab", "ba", "abb", "abab", "aaab", "bbbbba"):
            for calls in range(4):
                row = written(start, [1] * calls)
                own = made_by(start) + calls
                for many in (own + 1, own + 2, 63, 64):
                    self.assertIsNone(number_of(2, row, many))
                for many in range(own + 1):
                    self.assertIsNotNone(number_of(2, row, many))

    def test_lengths_that_do_not_allow_so_many_calls(self):
        for letters in (2, 26):
            for length, calls in [(2, 1), (2, 64), (3, 2), (4, 1), (5, 3), (6, 1), (7, 2), (33, 6), (49, 5), (57, 4),
                                  (58, 1), (59, 2), (60, 1), (60, 64)]:
                self.assertEqual(rows_many(letters, length, calls), 0)
                for number in (0, 1, GREAT):
                    self.assertEqual(refusal(row_of, letters, length, calls, number), f"NoNumber({number})")


class Large(unittest.TestCase):

    def rows_by_products(self, letters, length, calls):
        """The number of rows, by the number of starts and of the places of each call."""
        last = length - 1
        places = []
        for _ in range(calls):
            if last % 2 == 1:
                return 0
            last //= 2
            places.append(last + 1)
        many = letters ** (last + 1) - letters ** last
        for own in places:
            many *= own
        return many

    def test_how_many(self):
        for letters in (2, 3, 4, 13, 25, 26):
            for length in range(2, 61):
                for calls in (0, 1, 2, 3, 4, 5, 6, 63, 64):
                    expected = self.rows_by_products(letters, length, calls)
                    self.assertEqual(rows_many(letters, length, calls), expected)
                self.assertEqual(seeds_many(letters, length), self.rows_by_products(letters, length, 0)
                                 - self.rows_by_products(letters, length, 1))

    def test_rows_and_numbers_lead_back_to_one_another(self):
        numbers = chance(700)
        for letters in (2, 3, 5, 25, 26):
            for length in (2, 3, 5, 9, 17, 33, 41, 49, 57, 58, 59, 60):
                for calls in range(6):
                    many = rows_many(letters, length, calls)
                    if many == 0:
                        continue
                    chosen = {0, 1, many // 2, many - 2, many - 1, numbers.randrange(many), numbers.randrange(many)}
                    for number in chosen:
                        if 0 <= number < many:
                            row = row_of(letters, length, calls, number)
                            self.assertEqual(len(row), length)
                            self.assertNotEqual(row[0], row[-1])
                            self.assertLessEqual(set(row), set(LETTERS[:letters]))
                            self.assertGreaterEqual(made_by(row), calls)
                            self.assertEqual(number_of(letters, row, calls), number)
                    for number in (many, many + 1, many * 1000, many + GREAT):
                        self.assertEqual(refusal(row_of, letters, length, calls, number), f"NoNumber({number})")

    def test_made_rows_have_numbers(self):
        numbers = chance(701)
        for letters, last, calls in [(26, 59, 0), (26, 29, 1), (5, 14, 2), (26, 7, 3), (3, 3, 4), (2, 1, 5), (4, 2, 4)]:
            for _ in range(10):
                start = "".join(numbers.choice(LETTERS[:letters]) for _ in range(last))
                start += numbers.choice(LETTERS[:letters].replace(start[0], ""))
                row = written(start, random_story(numbers, start, calls))
                for many in range(calls + 1):
                    number = number_of(letters, row, many)
                    self.assertEqual(row_of(letters, len(row), many, number), row)
                self.assertLess(number_of(letters, row, calls), rows_many(letters, len(row), calls))

    def test_greater_numbers_are_of_greater_starts_and_stories(self):
        numbers = chance(702)
        for letters, length, calls in [(26, 60, 0), (2, 57, 3), (26, 49, 4), (7, 33, 5), (3, 59, 1)]:
            many = rows_many(letters, length, calls)
            told = []
            for number in sorted(numbers.randrange(many) for _ in range(30)):
                row = row_of(letters, length, calls, number)
                story = []
                for _ in range(calls):
                    ((row, (place,)),) = plain_elders(row)
                    story = [place] + story
                told.append((row, story))
            self.assertEqual(told, sorted(told))

    def test_the_first_and_the_last_row(self):
        self.assertEqual([row_of(2, 60, 0, 0), row_of(26, 60, 0, 0)], ["a" * 59 + "b"] * 2)
        self.assertEqual(row_of(26, 60, 0, rows_many(26, 60, 0) - 1), "z" * 59 + "y")
        self.assertEqual([row_of(26, 33, 5, 0), number_of(26, "a" + "b" * 32, 5)], [written("ab", [0] * 5), 0])
        self.assertEqual(row_of(26, 33, 5, rows_many(26, 33, 5) - 1), written("zy", [1, 2, 4, 8, 16]))

    def test_time(self):
        before = time.perf_counter()
        for number in range(200):
            self.assertEqual(number_of(26, row_of(26, 49, 4, number ** 4), 4), number ** 4)
        self.assertLess(time.perf_counter() - before, 10)


if __name__ == "__main__":
    unittest.main()
