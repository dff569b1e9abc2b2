"""[6], [52], [53]: the ways back of rows and of Fars."""

import time
import unittest

from ownlog.far import Far
from ownlog.pasts import far_past, past, pasts, same
from ownlog.rows import follow
from tests.helper import (chance, changed, plain_elders, plain_pasts, random_row, random_story, refusal, same_after,
                          written)
from tests.test_elders import THREE_ELDERS, TWINS, alternating, made_rows, small_rows, special_rows
from tests.test_far import LONGEST, far_ones

# With equal ends, so that calls of them make rows with one elder, and with several.
STARTS = ["aa", "aaa", "aba", "ababa", "abaca", "aabaaa", "aaabaa", "aabaaaabaaa"] + THREE_ELDERS


def plain_many(row):
    """The number of pasts of a row, each row on the way back looked at once."""
    kept = {}

    def count(own):
        if own not in kept:
            found = plain_elders(own)
            kept[own] = sum(len(places) * count(older) for older, places in found) if found else 1
        return kept[own]

    return count(row)


def first_many(row):
    """The number of places of the elders of the first row on the way back that has more than one, or None."""
    while True:
        found = plain_elders(row)
        places = [place for _, own in found for place in own]
        if len(places) != 1:
            return len(places) or None
        row = found[0][0]


def late_ones(seed, many, calls):
    """Rows made from rows with several elders, or with joints."""
    numbers = chance(seed)
    for _ in range(many):
        row = numbers.choice(STARTS)
        story = random_story(numbers, row, numbers.randint(0, calls))
        if (len(row) - 1) * 2 ** len(story) < 1000:
            yield written(row, story)


class Pasts(unittest.TestCase):

    def check(self, row):
        """See what past and pasts say of a row that has not too many pasts."""
        expected = plain_pasts(row)
        many = len(expected)
        self.assertEqual(len({(seed, tuple(story)) for seed, story in expected}), many)
        several = first_many(row)
        if several is None:
            self.assertEqual([same_after(self, past, row)], expected)
        else:
            self.assertEqual(refusal(past, row), f"Several({several})")
        if many <= 400:
            self.assertEqual(same_after(self, pasts, row), expected)
        else:
            self.assertEqual(refusal(pasts, row), "TooMany(400)")
        for limit in (many, many + 1, 1000):
            if limit <= 1000:
                told = pasts(row, limit=limit) if many <= limit else refusal(pasts, row, limit=limit)
                self.assertEqual(told, expected if many <= limit else f"TooMany({limit})")
        for limit in (many - 1, many // 2, 1):
            if 1 <= limit < many:
                self.assertEqual(refusal(pasts, row, limit=limit), f"TooMany({limit})")

    def test_small_rows(self):
        for row in small_rows():
            self.check(row)

    def test_made_rows_and_the_same_with_one_letter_changed(self):
        for row in made_rows(520, 200, 6):
            self.check(row)
        for row in made_rows(521, 100, 5, 2, 5):
            if plain_many(row) <= 2000:
                self.check(row)

    def test_rows_on_whose_way_back_are_several_elders(self):
        told = set()
        for row in late_ones(522, 300, 4):
            if plain_many(row) <= 2000:
                self.check(row)
                told.add(first_many(row))
        self.assertTrue({None, 2, 3} <= told)

    def test_places_are_told_and_not_elders(self):
        self.assertEqual(refusal(past, "aaaaa"), "Several(3)")
        self.assertEqual(refusal(past, "ababababa"), "Several(3)")
        self.assertEqual(refusal(past, written(TWINS[0], [TWINS[1]])), "Several(2)")
        self.assertEqual([refusal(past, row) for row in THREE_ELDERS], ["Several(3)"] * 3)

    def test_the_first_row_with_several_is_told(self):
        # Three places in the row before the last one, two places in a later one on the way back.
        self.assertEqual(first_many("aaaaa"), 3)
        self.assertEqual(refusal(past, "aaaaa"), "Several(3)")
        for start, many in [("aaaaa", 3), ("aaa", 2), ("aaaaaaaaa", 5)] + [(row, 3) for row in THREE_ELDERS]:
            found = [place for place in range(len(start)) if first_many(written(start, [place])) == many
                     and len(plain_elders(written(start, [place]))[0][1]) == 1]
            for place in found:
                self.assertEqual(refusal(past, written(start, [place])), f"Several({many})")
            self.assertEqual(found == [], start[1:] == start[:-1])

    def test_seeds(self):
        for row in ("ab", "aa", "abc", "abab", "a" * 1000, LONGEST, alternating(998)):
            self.assertEqual(past(row), (row, []))
            for limit in (1, 2, 1000):
                self.assertEqual(pasts(row, limit=limit), [(row, [])])

    def test_rows_whose_ends_differ_have_one_past(self):
        numbers = chance(523)
        for _ in range(100):
            row = random_row(numbers, 9) + "x"
            seed, start = past(row)
            story = random_story(numbers, row, numbers.randint(0, 6))
            self.assertEqual(past(written(row, story)), (seed, start + story))
            self.assertEqual(pasts(written(row, story), limit=1), [(seed, start + story)])

    def test_nine_calls_and_999_letters(self):
        numbers = chance(524)
        for row, calls in (("ab", 9), ("abc", 8), (LONGEST[:500], 1), ("ba" * 31, 4)):
            story = random_story(numbers, row, calls)
            self.assertEqual(past(written(row, story)), (row, story))

    def test_rows_of_one_letter(self):
        before = time.perf_counter()
        for many in list(range(2, 200)) + [257, 511, 512, 513, 769, 997, 998, 999, 1000]:
            row = "a" * many
            expected = 1
            length = many
            while length % 2 == 1:
                length = length // 2 + 1
                expected *= length
            for limit in (1, 400, 1000):
                if expected > limit:
                    self.assertEqual(refusal(pasts, row, limit=limit), f"TooMany({limit})")
                else:
                    self.assertEqual(len(pasts(row, limit=limit)), expected)
            self.assertEqual(refusal(past, row), f"Several({many // 2 + 1})" if many % 2 == 1 else None)
        self.assertEqual(plain_many("a" * 513), 257 * 129 * 65 * 33 * 17 * 9 * 5 * 3 * 2)
        self.assertLess(time.perf_counter() - before, 10)

    def test_special_rows(self):
        for row in list(special_rows()) + [alternating(many) for many in (65, 193, 257, 513, 997)]:
            if plain_many(row) <= 2000:
                self.check(row)
            else:
                self.assertEqual(refusal(pasts, row), "TooMany(400)")
                self.assertEqual(refusal(pasts, row, limit=1000), "TooMany(1000)")
                self.assertEqual(refusal(past, row), f"Several({first_many(row)})")

    def test_a_limit_of_just_as_many(self):
        self.assertEqual([len(pasts("a" * 799)), len(pasts("a" * 17, limit=270))], [400, 270])
        self.assertEqual(refusal(pasts, "a" * 17, limit=269), "TooMany(269)")
        self.assertEqual(refusal(pasts, "a" * 803), "TooMany(400)")
        self.assertEqual(len(pasts("a" * 803, limit=402)), 402)

    def test_kinds_and_new_lists(self):
        seed, story = past("aabaabccc")
        story.append(7)
        self.assertEqual(past("aabaabccc"), ("abc", [1, 3]))
        self.assertIsInstance(past("aab"), tuple)
        for row in ("aaa", "aaaaa", "ab", "aabaabccc"):
            told = pasts(row)
            self.assertTrue(all(type(own) is tuple for own in told))
            self.assertEqual(len({id(own) for _, own in told}), len(told))
            expected = plain_pasts(row)
            for _, own in told:
                own.append(7)
            told.clear()
            self.assertEqual(pasts(row), expected)


class OfFars(unittest.TestCase):

    def fars(self, seed, many):
        """Fars with different ends, whose rows were made by calls, with the seeds and all calls."""
        numbers = chance(seed)
        for _ in range(many):
            start = random_row(numbers, numbers.choice([3, 6, 30]), 4) + "x"
            first, before = plain_pasts(start)[0]
            made = random_story(numbers, start, numbers.randint(0, 4))
            row = written(start, made)
            story = random_story(numbers, row, numbers.choice([0, 1, 2, 5, 63, 64]))
            yield Far(row, story), first, before + made + story

    def test_the_past_of_a_far(self):
        longest = 0
        for far, seed, calls in self.fars(530, 120):
            self.assertEqual(far_past(far), (seed, calls))
            longest = max(longest, len(calls))
        self.assertGreater(longest, 64)
        for row, story in far_ones(531, 5):
            if row[0] != row[-1]:
                far = Far(row, story)
                self.assertEqual(far_past(far), (past(row)[0], past(row)[1] + story))
                self.assertEqual(far, Far(row, story))

    def test_more_than_64_calls(self):
        story = random_story(chance(532), "ab", 73)
        self.assertEqual(far_past(Far(follow("ab", story[:9]), story[9:])), ("ab", story))

    def test_the_same_long_row_told_from_a_later_row(self):
        for far, _, _ in self.fars(533, 60):
            row, story = far.row(), far.story()
            told = [many for many in range(min(4, len(story)) + 1) if (len(row) - 1) * 2 ** many < 1000]
            self.assertGreater(len(told), 0)
            for many in told:
                later = Far(written(row, story[:many]), story[many:])
                self.assertIs(same(far, later), True)
                self.assertIs(same(later, far), True)
                self.assertEqual(far_past(later), far_past(far))
            self.assertEqual(far, Far(row, story))

    def test_other_long_rows(self):
        numbers = chance(534)
        for far, _, _ in self.fars(535, 60):
            row, story = far.row(), far.story()
            others = [Far(changed(row, place), story) for place in (0, len(row) // 2, len(row) - 1)]
            if story:
                others.append(Far(row, story[:-1]))
            if len(story) < 64:
                others += [far.after(0), far.after(far.length() - 1)]
            for at in {0, len(story) // 2, len(story) - 1} if story else ():
                last = (len(row) - 1) * 2 ** at
                places = {0, 1, last, numbers.randint(0, last), story[at] - 1, story[at] + 1} - {story[at]}
                for place in places:
                    if 0 <= place <= last:
                        others.append(Far(row, story[:at] + [place] + story[at + 1:]))
            for other in others:
                self.assertIs(same(far, other), False)
                self.assertIs(same(other, far), False)

    def test_all_fars_of_small_rows(self):
        rows = {}
        for row in ("ab", "abb", "aab", "abc", "aabb", "abbab", "aabbb", "abbbb", "abbbbbbbb"):
            for calls in ([], [0], [1], [0, 0], [0, 1], [1, 0], [1, 2], [1, 1], [0, 0, 0], [1, 2, 3]):
                rows[row, tuple(calls)] = written(row, calls)
        for (row, calls), text in rows.items():
            for (other, its), new in rows.items():
                self.assertIs(same(Far(row, list(calls)), Far(other, list(its))), text == new)

    def test_equal_ends(self):
        fars = [Far("aa", []), Far("aba", [1]), Far("abca", [0] * 64), Far("a" * 999, [5])]
        for far in fars:
            row, story = far.row(), far.story()
            self.assertEqual(refusal(far_past, far), "EqualEnds()")
            self.assertEqual(refusal(same, far, far), "EqualEnds()")
            for other in (Far("ab", []), Far("abc", [1] * 64)):
                self.assertEqual(refusal(same, far, other), "EqualEnds()")
                self.assertEqual(refusal(same, other, far), "EqualEnds()")
            for other in fars:
                self.assertEqual(refusal(same, far, other), "EqualEnds()")
            self.assertEqual(far, Far(row, story))

    def test_kinds_and_new_lists(self):
        far = Far("aabcc", [3])
        told = far_past(far)
        self.assertIsInstance(told, tuple)
        told[1].append(7)
        self.assertEqual(far_past(far), ("abc", [1, 3]))
        self.assertEqual(far, Far("aabcc", [3]))
        self.assertIs(same(far, far), True)
        self.assertEqual(far_past(Far("ab", [])), ("ab", []))
        far_past(Far("ab", []))[1].append(7)
        self.assertEqual(far_past(Far("ab", [])), ("ab", []))


if __name__ == "__main__":
    unittest.main()
