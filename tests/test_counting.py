"""[7], [42]: the stories that lead to a tally, and their numbers."""

import itertools
import unittest

from ownlog.counting import stories_many, story_number, story_of
from ownlog.far import Far
from ownlog.tallies import far_tally, tally
from tests.helper import (LETTERS, all_stories, chance, counted, random_row, random_story, refusal, same_after,
                          written)
from tests.test_far import LONGEST, far_ones

GREAT = 10 ** 99


def small_rows():
    """All rows of 2 to 4 letters that differ in more than the names of their letters."""
    for many in (2, 3, 4):
        for letters in itertools.product("abcd"[:many], repeat=many):
            firsts = sorted(set(letters), key=letters.index)
            if firsts == sorted(firsts):
                yield "".join(letters)


def groups(row, calls):
    """The stories of so many calls, in ascending order, by the tallies to which they lead."""
    found = {}
    for story, late in all_stories(row, calls):
        found.setdefault(tuple(counted(late)), []).append(story)
    return found


def near(reached):
    """Tallies that differ a little from one that is reached."""
    numbers = dict(reached)
    free = [letter for letter in "abcdz" if letter not in numbers]
    found = []
    for letter, number in reached:
        others = {own: numbers[own] for own in numbers if own != letter}
        found += [{**others, letter: new} for new in (number - 2, number - 1, number + 1, number + 2, 2 * number)]
        found += [others, {**numbers, free[0]: 1}, {**numbers, free[-1]: 2}]
        for own in free + sorted(others):
            found += [{**others, own: others.get(own, 0) + number}]
            for moved in (1, 2):
                found += [{**numbers, letter: number - moved, own: numbers.get(own, 0) + moved}]
    return [sorted(new.items()) for new in found if new and min(new.values()) >= 1]


def reachable(row, late, calls):
    """Whether some calls lead to the tally: each call takes a power of 2 from the number of one letter."""
    start = dict(counted(row))
    if sorted(start) != [letter for letter, _ in late]:
        return False
    taken = [start[letter] * 2 ** calls - number for letter, number in late]
    return min(taken) >= 0 and sum(taken) == 2 ** calls - 1 and sum(own.bit_count() for own in taken) == calls


class Small(unittest.TestCase):

    def check_group(self, row, reached, calls, stories):
        """See that these are the stories of so many calls that lead to the tally."""
        late = list(reached)
        self.assertEqual(same_after(self, stories_many, row, late, calls), len(stories))
        for number, story in enumerate(stories):
            self.assertEqual(same_after(self, story_of, row, late, calls, number), story)
            self.assertEqual(same_after(self, story_number, row, story), number)
        for number in (len(stories), len(stories) + 1, GREAT, 10 ** 3000):
            self.assertEqual(refusal(story_of, row, late, calls, number), f"NoNumber({number})")

    def test_all_stories_of_small_rows(self):
        for row in small_rows():
            # Four letters have 364 stories of three calls each; those of the first ones are enough.
            for calls in range(4 if len(row) < 4 or row in ("aaaa", "abca", "aabb", "abab") else 3):
                for reached, stories in groups(row, calls).items():
                    self.check_group(row, reached, calls, stories)

    def test_tallies_near_those_that_are_reached(self):
        for row in ("ab", "aa", "aab", "aba", "abc", "aaa", "abac", "aabb"):
            for calls in range(3):
                found = groups(row, calls)
                for reached in found:
                    for late in near(reached):
                        expected = found.get(tuple(late), [])
                        self.assertEqual(same_after(self, stories_many, row, late, calls), len(expected))
                        if not expected:
                            self.assertEqual(refusal(story_of, row, late, calls, 0), "NoNumber(0)")

    def test_tallies_that_only_fewer_or_more_calls_reach(self):
        for row in ("ab", "aa", "aba", "abc", "aaa"):
            for calls in range(4):
                for reached in groups(row, calls):
                    for others in (0, 1, 2, 3, 4, 5, 63, 64):
                        if others != calls:
                            self.assertEqual(stories_many(row, list(reached), others), 0)
                            self.assertEqual(refusal(story_of, row, list(reached), others, 0), "NoNumber(0)")

    def test_other_rows_with_the_same_letters(self):
        late = counted(written("abc", [1, 3]))
        for row in ("abc", "acb", "bac", "bca", "cab", "cba"):
            self.check_group(row, late, 2, groups(row, 2)[tuple(late)])
        for row in ("ab", "abb", "aabc", "abcd", "xyz", "abd", LETTERS):
            self.assertEqual(stories_many(row, late, 2), 0)

    def test_no_calls(self):
        for row in ("ab", "aa", "banana", LETTERS, LONGEST, "z" * 1000):
            self.assertEqual(stories_many(row, counted(row), 0), 1)
            self.assertEqual(story_of(row, counted(row), 0, 0), [])
            self.assertEqual(story_number(row, []), 0)
            self.assertEqual(refusal(story_of, row, counted(row), 0, 1), "NoNumber(1)")
            for late in near(counted(row[:4])):
                self.assertEqual(stories_many(row, late, 0), int(late == counted(row)))

    def test_returned_lists_are_new(self):
        late = counted(written("abc", [1, 3]))
        for number in (0, 1):
            story_of("abc", late, 2, number).append(7)
        self.assertEqual([story_of("abc", late, 2, number) for number in (0, 1)], [[1, 3], [1, 4]])
        story_of("ab", [("a", 1), ("b", 1)], 0, 0).append(7)
        self.assertEqual(story_of("ab", [("a", 1), ("b", 1)], 0, 0), [])


class Long(unittest.TestCase):

    def test_one_letter_can_be_called_everywhere(self):
        # Each call of this row has all places to choose from, so a number is written in them as digits.
        late = far_tally(Far("aa", [0] * 64))
        many = 1
        for at in range(64):
            many *= 2 ** at + 1
        self.assertEqual(stories_many("aa", late, 64), many)
        self.assertEqual(story_of("aa", late, 64, 0), [0] * 64)
        self.assertEqual(story_of("aa", late, 64, many - 1), [2 ** at for at in range(64)])
        self.assertEqual(story_of("aa", late, 64, 1), [0] * 63 + [1])
        self.assertEqual(story_of("aa", late, 64, 2 ** 63 + 1), [0] * 62 + [1, 0])
        self.assertEqual(refusal(story_of, "aa", late, 64, many), f"NoNumber({many})")

    def test_stories_of_64_calls(self):
        for row, story in far_ones(420, 5):
            late = far_tally(Far(row, story))
            number = same_after(self, story_number, row, story)
            many = same_after(self, stories_many, row, late, 64)
            self.assertTrue(0 <= number < many)
            self.assertEqual(same_after(self, story_of, row, late, 64, number), story)
            for beyond in (many, many + 1, many + GREAT):
                self.assertEqual(refusal(story_of, row, late, 64, beyond), f"NoNumber({beyond})")

    def test_a_greater_number_gives_a_greater_story(self):
        numbers = chance(421)
        rows = [LONGEST, "ab", "aab", random_row(numbers, 1000, 26), random_row(numbers, 60, 3)]
        for row in rows:
            story = random_story(numbers, row, 64)
            late = far_tally(Far(row, story))
            many = stories_many(row, late, 64)
            own = story_number(row, story)
            drawn = [0, 1, own - 1, own, own + 1, many - 2, many - 1] + [numbers.randrange(many) for _ in range(2)]
            chosen = sorted({number for number in drawn if 0 <= number < many})
            stories = [story_of(row, late, 64, number) for number in chosen]
            self.assertEqual(stories, sorted(stories))
            for number, found in zip(chosen, stories):
                self.assertEqual(far_tally(Far(row, found)), late)
                self.assertEqual(story_number(row, found), number)

    def test_the_numbers_of_64_calls_count_the_choices(self):
        # The number of choices of each call is counted in the row made by then.
        for row, story in far_ones(422, 3):
            many = 1
            letters = Far(row, story).called()
            for at in range(64):
                many *= dict(far_tally(Far(row, story[:at])))[letters[at]]
            self.assertEqual(stories_many(row, far_tally(Far(row, story)), 64), many)

    def test_tallies_near_long_ones(self):
        numbers = chance(423)
        for row in ("ab", "abc", LONGEST):
            story = random_story(numbers, row, 64)
            late = far_tally(Far(row, story))
            self.assertGreater(stories_many(row, late, 64), 0)
            for calls in (0, 1, 62, 63):
                self.assertEqual(stories_many(row, late, calls), 0)
            self.assertEqual(stories_many(row, tally(row), 64), 0)
            found = {True: 0, False: 0}
            for other in near(late)[:300]:
                expected = reachable(row, other, 64)
                found[expected] += 1
                self.assertEqual(stories_many(row, other, 64) > 0, expected)
            self.assertTrue(row == LONGEST or min(found.values()) > 0)

    def test_somewhat_more_than_64_calls_are_no_error(self):
        story = random_story(chance(424), "abc", 67)
        late = [("a", 2 ** 67), ("b", 2 ** 67), ("c", 2 ** 67)]
        self.assertEqual(stories_many("abc", late, 67), 0)
        # The last place is called by each call, so there is just one c, and an a and a b for each other place.
        lasts = [2 * 2 ** at for at in range(67)]
        late = [("a", 2 ** 67), ("b", 2 ** 67), ("c", 1)]
        self.assertEqual(stories_many("abc", late, 67), 1)
        self.assertEqual(story_of("abc", late, 67, 0), lasts)
        self.assertEqual(story_number("abc", lasts), 0)
        self.assertGreaterEqual(story_number("abc", story), 0)

    def test_great_tallies_that_are_not_reached(self):
        for late in ([("a", 10 ** 40), ("b", 1)], [("a", 10 ** 40)], [("b", 2 ** 130), ("c", 1)]):
            for calls in (0, 1, 2, 63, 64):
                self.assertEqual(stories_many("ab", late, calls), 0)
                self.assertEqual(refusal(story_of, "ab", late, calls, 0), "NoNumber(0)")


if __name__ == "__main__":
    unittest.main()
