"""[5], [82]: runs of a letter in long rows."""

import itertools
import re
import unittest

from ownlog.far import Far
from ownlog.patterns import first_from, occurrences
from ownlog.reading import count_before
from ownlog.runs import longest_run, runs_many
from tests.helper import LETTERS, chance, far_letter, pattern_counter, random_row, random_story, written
from tests.test_far import LONGEST, far_ones, samples


def plain_runs(text, letter):
    """The runs of a letter in a written text: tuples of the length and the place."""
    return [(len(found.group()), found.start()) for found in re.finditer(letter + "+", text)]


def plain_longest(text, letter):
    found = plain_runs(text, letter)
    most = max((many for many, _ in found), default=0)
    return most, min((place for many, place in found if many == most), default=None)


class RunsOfLetters(unittest.TestCase):

    def check(self, row, story, letters="abcdz"):
        text = written(row, story)
        far = Far(row, story)
        for letter in letters:
            self.assertEqual(longest_run(far, letter), plain_longest(text, letter))
            self.assertEqual(runs_many(far, letter), len(plain_runs(text, letter)))
        self.assertEqual(far, Far(row, story))

    def test_all_small_rows(self):
        for many in range(2, 6):
            for row in itertools.product("ab", repeat=many):
                for one in range(many):
                    for two in range(0, 2 * many - 1):
                        self.check("".join(row), [one, two], "ab")

    def test_written_rows(self):
        for row, story in samples(820, 300, 6):
            self.check(row, story)
        numbers = chance(821)
        for _ in range(100):
            row = "".join(numbers.choice("ab") * numbers.randint(1, 9) for _ in range(numbers.randint(2, 6)))
            self.check(row, random_story(numbers, row, numbers.randint(0, 5)))

    def test_runs_at_the_ends_and_over_the_cuts(self):
        # Over the cut before the whole row, over the one behind it, and where nothing is called.
        self.assertEqual(longest_run(Far("aabaa", [4]), "a"), (3, 3))
        self.assertEqual(longest_run(Far("aabaab", [4]), "a"), (3, 3))
        self.assertEqual(longest_run(Far("abbabb", [1]), "b"), (3, 5))
        self.assertEqual(longest_run(Far("acbab", [1]), "b"), (2, 5))
        self.assertEqual(longest_run(Far("aaabcaa", []), "a"), (3, 0))
        self.assertEqual(longest_run(Far("aabcaaa", []), "a"), (3, 4))
        for row in ("aabaa", "baaab", "aaaba", "abaaa", "aabaab", "abbb"):
            for story in ([], [0], [2], [len(row) - 1], [0, 0], [2, 4], [len(row) - 1, 0]):
                self.check(row, story, "abz")

    def test_the_first_of_several(self):
        for row, story, expected in [("abab", [], (1, 0)), ("babab", [], (1, 1)), ("cabab", [0], (1, 1)),
                                     ("baabaac", [6], (2, 1)), ("caab", [0, 0, 0], (2, 1))]:
            self.assertEqual(longest_run(Far(row, story), "a"), expected)
            self.check(row, story)

    def test_rows_of_one_letter(self):
        for row in ("aa", "aaaaa", "a" * 1000):
            for story in ([], [0], [1, 2], [0, len(row)] + [1] * 62):
                far = Far(row, story)
                self.assertEqual([longest_run(far, "a"), runs_many(far, "a")], [(far.length(), 0), 1])
                self.assertEqual([longest_run(far, "b"), runs_many(far, "b")], [(0, None), 0])

    def test_letters_that_do_not_occur(self):
        for row, story in itertools.chain(samples(822, 10, 5), far_ones(823, 2)):
            for letter in LETTERS:
                if letter not in row:
                    self.assertEqual([longest_run(Far(row, story), letter), runs_many(Far(row, story), letter)],
                                     [(0, None), 0])

    def test_long_runs(self):
        # Each call repeats all letters before the last one.
        for calls in (1, 9, 10, 11, 40, 64):
            far = Far("ab", [2 ** at for at in range(calls)])
            self.assertEqual([longest_run(far, "a"), runs_many(far, "a")], [(2 ** calls, 0), 1])
            self.assertEqual([longest_run(far, "b"), runs_many(far, "b")], [(1, 2 ** calls), 1])
            far = Far("ab", [0] * calls)
            self.assertEqual([longest_run(far, "b"), runs_many(far, "b")], [(2 ** calls, 1), 1])
        self.assertEqual(longest_run(Far("a" * 999 + "b", [999, 0]), "a"), (1998, 0))
        far = Far("b" + "a" * 998 + "b", [999] + [0] * 63)
        self.assertEqual([longest_run(far, "a"), runs_many(far, "a")], [(998, 1), 2 ** 64])
        far = Far("abaaa", [4, 8, 4])
        text = written("abaaa", [4, 8, 4])
        self.assertEqual(longest_run(far, "a"), plain_longest(text, "a"))

    def test_runs_that_grow_over_the_cuts(self):
        # The whole row ends and begins with the letter, so calls at its ends join runs that calls have made.
        for row in ("aba", "aabaaa", "abcba"):
            story = []
            last = len(row) - 1
            for at in range(64):
                story.append((0, last, 1, last - 1)[at % 4])
                last = 2 * last
                if at < 6:
                    self.check(row, story, "abc")
            self.check_far(row, story, "a")

    def test_rows_of_1000_letters(self):
        numbers = chance(824)
        drawn = "".join(numbers.choice("ab") for _ in range(1000))
        for row in (LONGEST, drawn, "a" * 500 + "b" + "a" * 499, "b" + "a" * 999):
            for story in ([], [0], [999], [500, 3], [499, 1500, 1]):
                self.check(row, story, "abqz")

    def check_far(self, row, story, letter):
        """See that the longest run is one, that there is no longer and no earlier one, and count all by pairs."""
        far = Far(row, story)
        many, place = longest_run(far, letter)
        self.assertTrue(many > 0)
        for at in (place, place + 1, place + many // 2, place + many - 1):
            if at < place + many:
                self.assertEqual(far_letter(row, story, at), letter)
        for at in (place - 1, place + many):
            if 0 <= at < far.length():
                self.assertNotEqual(far_letter(row, story, at), letter)
        if many <= 40:
            self.assertEqual(first_from(far, letter * many, 0), place)
            self.assertEqual(occurrences(far, letter * (many + 1)), 0)
        letters = count_before(far, letter, far.length())
        # Each letter begins a run, but not one directly after another one.
        doubles = pattern_counter(row, story, letter + letter)(far.length())
        self.assertEqual(runs_many(far, letter), letters - doubles)

    def test_stories_of_64_calls(self):
        for row, story in far_ones(825, 3):
            for letter in sorted(set(row))[:3]:
                self.check_far(row, story, letter)

    def test_stories_of_64_calls_of_rows_with_runs(self):
        numbers = chance(826)
        for _ in range(6):
            row = "".join(numbers.choice("ab") * numbers.randint(1, 5) for _ in range(6))
            row = row if len(row) > 1 and "a" in row else row + "ab"
            self.check_far(row, random_story(numbers, row, 64), "a")


if __name__ == "__main__":
    unittest.main()
