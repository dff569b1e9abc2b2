"""[10], [72], [73]: the order of the rows that calls make, and where two rows differ after the same calls."""

import itertools
import unittest

from ownlog.order import differences, first_difference, greatest_story, last_difference, least_story, sorted_calls
from tests.helper import (LETTERS, all_stories, changed, chance, far_counter, far_letter, random_row, random_story,
                          refusal, same_after, written)
from tests.test_elders import THREE_ELDERS, alternating, made_rows, small_rows
from tests.test_far import LONGEST


def plain_order(row):
    """The places, in ascending order of the rows that their calls make."""
    return [place for _, place in sorted((written(row, [place]), place) for place in range(len(row)))]


class Sorted(unittest.TestCase):

    def test_small_rows(self):
        for row in small_rows():
            self.assertEqual(same_after(self, sorted_calls, row), plain_order(row))

    def test_other_rows(self):
        for row in itertools.chain(made_rows(720, 60, 12, 4), THREE_ELDERS, [LETTERS, LETTERS[::-1]]):
            self.assertEqual(same_after(self, sorted_calls, row), plain_order(row))

    def test_rows_of_up_to_1000_letters(self):
        numbers = chance(721)
        drawn = ["".join(numbers.choice("ab") for _ in range(many)) for many in (500, 501, 999, 1000)]
        for row in ["a" * 1000, "a" * 999 + "b", "b" + "a" * 999, alternating(1000), alternating(999), LONGEST,
                    "a" * 500 + "b" + "a" * 499, LONGEST[:501], LONGEST[:999]] + drawn:
            self.assertEqual(sorted_calls(row), plain_order(row))

    def test_places_that_make_the_same_row_ascend(self):
        self.assertEqual(sorted_calls("a" * 1000), list(range(1000)))
        self.assertEqual(sorted_calls("aa"), [0, 1])
        found = sorted_calls("ababa")
        self.assertEqual([place for place in found if place % 2 == 0], [0, 2, 4])

    def test_returned_lists_are_new(self):
        for query in (lambda: sorted_calls("abc"), lambda: least_story("abc", 2), lambda: greatest_story("abc", 2),
                      lambda: least_story("abc", 0), lambda: greatest_story("abc", 0)):
            told = query()
            expected = list(told)
            told.append(7)
            self.assertEqual(query(), expected)


class Outer(unittest.TestCase):

    def test_all_stories_of_small_rows(self):
        rows = [row for row in small_rows() if len(row) <= 4] + ["abcde", "edcba", "aabab", "babaa", "bbbba"]
        for row in rows:
            for calls in range(4 if len(row) <= 4 else 3):
                found = all_stories(row, calls)
                least = min((late, story) for story, late in found)
                greatest = max(late for _, late in found)
                self.assertEqual(same_after(self, least_story, row, calls), least[1])
                first = min(story for story, late in found if late == greatest)
                self.assertEqual(same_after(self, greatest_story, row, calls), first)

    def step_by_step(self, row, calls, choose):
        """The least places whose calls make the chosen row of those that can be made, call by call."""
        story = []
        for _ in range(calls):
            best = choose(written(row, [place]) for place in range(len(row)))
            story.append(min(place for place in range(len(row)) if written(row, [place]) == best))
            row = best
        return story

    def test_other_rows(self):
        numbers = chance(722)
        rows = [random_row(numbers, 15, letters) for letters in (1, 2, 3, 26) for _ in range(8)]
        for row in rows + ["ab", "ba", "aa", "aaab", "baaa"]:
            for calls in range(7):
                if (len(row) - 1) * 2 ** calls < 200:
                    self.assertEqual(least_story(row, calls), self.step_by_step(row, calls, min))
                    self.assertEqual(greatest_story(row, calls), self.step_by_step(row, calls, max))

    def test_long_rows(self):
        for row, calls in [("ab", 9), ("ba", 9), ("aa", 9), (LONGEST[:500], 1), ("abc", 8), (alternating(250), 2),
                           ("cab" * 20, 4), (LETTERS, 5)]:
            self.assertEqual(least_story(row, calls), self.step_by_step(row, calls, min))
            self.assertEqual(greatest_story(row, calls), self.step_by_step(row, calls, max))

    def test_no_calls(self):
        for row in ("ab", "aa", "ba", LETTERS, LONGEST, "a" * 1000):
            self.assertEqual([least_story(row, 0), greatest_story(row, 0)], [[], []])

    def test_rows_that_are_too_long(self):
        # The last places of the last rows are 998, 999 and 1,000, where they can be.
        for last, calls in [(998, 0), (999, 0), (499, 1), (249, 2), (124, 3), (62, 4), (31, 5), (15, 6), (7, 7),
                            (3, 8), (1, 9)]:
            for query in (least_story, greatest_story):
                self.assertEqual(len(query("a" * last + "b", calls)), calls)
        for last, calls in [(500, 1), (999, 1), (250, 2), (125, 3), (63, 4), (32, 5), (16, 6), (8, 7), (4, 8), (2, 9),
                            (999, 9)]:
            for query in (least_story, greatest_story):
                self.assertEqual(refusal(query, "a" * last + "b", calls), "TooLong(1000)")
                self.assertEqual(refusal(query, LONGEST[:last + 1], calls), "TooLong(1000)")

    def test_calls_keep_the_order(self):
        rows = ["".join(row) for row in itertools.product("abc", repeat=4)]
        for place in range(4):
            late = [written(row, [place]) for row in rows]
            self.assertEqual(late, sorted(late))
            self.assertEqual(len(set(late)), len(rows))


class Differences(unittest.TestCase):

    def check(self, row, other, story):
        """See what is told of two rows by the rows that are written."""
        late, new = written(row, story), written(other, story)
        places = [place for place in range(len(late)) if late[place] != new[place]]
        expected = [places[0], places[-1], len(places)]
        for one, two in ((row, other), (other, row)):
            told = [same_after(self, function, one, two, story)
                    for function in (first_difference, last_difference, differences)]
            self.assertEqual(told, expected)

    def pairs(self, numbers, row):
        """Rows that differ from the row in one letter, in several, in all."""
        for place in sorted({0, 1, len(row) // 2, len(row) - 1, numbers.randrange(len(row))}):
            yield changed(row, place)
        yield changed(changed(row, 0), len(row) - 1)
        yield "".join(numbers.choice([letter, "q"]) for letter in row[:-1]) + ("q" if row[-1] != "q" else "r")
        yield "".join("b" if letter == "a" else "a" for letter in row)

    def test_all_small_rows(self):
        rows = [row for row in small_rows() if len(row) <= 3 and "d" not in row]
        rows += ["aabb", "abab", "abba", "bbbb", "aaaa"]
        for row, other in itertools.combinations(rows, 2):
            if len(row) == len(other):
                for calls in range(3):
                    for story, _ in all_stories(row, calls):
                        self.check(row, other, story)

    def test_drawn_rows_and_stories(self):
        numbers = chance(730)
        for _ in range(60):
            row = random_row(numbers, 12, 4)
            story = random_story(numbers, row, numbers.randint(0, 6))
            for other in self.pairs(numbers, row):
                self.check(row, other, story)

    def test_a_difference_at_the_called_place(self):
        for row in ("ab", "aa", "abcab", "aaaaa"):
            for place in range(len(row)):
                other = changed(row, place)
                self.check(row, other, [place])
                # The called place stands at the double of it, so each later call is of the only difference.
                story = [place * 2 ** at for at in range(7)]
                self.check(row, other, story)
                self.assertEqual(differences(row, other, story), 1)
                long = [place * 2 ** at for at in range(64)]
                self.assertEqual(differences(row, other, long), 1)
                self.assertEqual(first_difference(row, other, long), place * 2 ** 64)
                self.assertEqual(last_difference(row, other, long), place * 2 ** 64)

    def test_rows_of_1000_letters(self):
        numbers = chance(731)
        for row in ("a" * 1000, LONGEST):
            for story in ([], [0], [999], [500, 3]):
                for other in self.pairs(numbers, row):
                    self.check(row, other, story)

    def test_stories_of_64_calls(self):
        numbers = chance(732)
        for row in ["ab", "aab", LETTERS, LONGEST] + [random_row(numbers, 20, 3) for _ in range(6)]:
            story = random_story(numbers, row, 64)
            length = (len(row) - 1) * 2 ** 64 + 1
            for other in self.pairs(numbers, row):
                count = far_counter(row, story, [at for at in range(len(row)) if row[at] != other[at]])
                for one, two in ((row, other), (other, row)):
                    self.assertEqual(differences(one, two, story), count(length))
                    first, last = first_difference(one, two, story), last_difference(one, two, story)
                    self.assertEqual([count(first), count(first + 1)], [0, 1])
                    self.assertEqual([count(last), count(last + 1)], [count(length) - 1, count(length)])
                    for place in (first, last):
                        self.assertNotEqual(far_letter(one, story, place), far_letter(two, story, place))

    def test_all_letters_differ(self):
        # Somewhat more than 64 calls are no error.
        for story in ([], [0], [1] * 64, [1] * 67, [2 ** at for at in range(64)]):
            length = 2 ** len(story)
            self.assertEqual(first_difference("ab", "ba", story), 0)
            self.assertEqual(last_difference("ab", "ba", story), length)
            self.assertEqual(differences("ab", "ba", story), length + 1)


if __name__ == "__main__":
    unittest.main()
