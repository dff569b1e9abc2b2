"""[7], [40], [41]: tallies before and after calls."""

import unittest

from ownlog.errors import NoLetter, NotCalled
from ownlog.far import Far
from ownlog.kinds import is_tally
from ownlog.reading import count_before
from ownlog.tallies import called, far_tally, most_called, tally, tally_after, tally_before
from tests.helper import LETTERS, chance, counted, random_row, random_story, same_after, written
from tests.test_far import LONGEST, far_ones, samples

GREATEST = 10 ** 40


def random_tally(numbers, letters, most):
    """A tally of so many letters."""
    return [(letter, numbers.randint(1, most)) for letter in sorted(numbers.sample(LETTERS, letters))]


class OfRows(unittest.TestCase):

    def test_rows(self):
        for row in ("ab", "ba", "aa", "zz", "abc", "cab", "banana", LETTERS, LETTERS[::-1], LONGEST, "q" * 1000):
            self.assertEqual(tally(row), counted(row))
            self.assertTrue(is_tally(tally(row)))

    def test_long_rows_that_are_written(self):
        for row, story in samples(400, 150, 7):
            far = Far(row, story)
            self.assertEqual(far_tally(far), counted(written(row, story)))
            self.assertEqual(far, Far(row, story))

    def test_the_longest_written_rows(self):
        for story in ([], [999], [0, 5]):
            self.assertEqual(far_tally(Far(LONGEST, story)), counted(written(LONGEST, story)))

    def test_stories_of_64_calls(self):
        for row, story in far_ones(401, 8):
            far = Far(row, story)
            expected = [(letter, count_before(far, letter, far.length())) for letter in sorted(set(row))]
            self.assertEqual(far_tally(far), expected)
            self.assertEqual(sum(number for _, number in expected), far.length())


class After(unittest.TestCase):

    def test_calls_of_written_rows(self):
        for row, story in samples(402, 150, 6):
            letters = Far(row, story).called()
            self.assertEqual(same_after(self, tally_after, tally(row), letters), counted(written(row, story)))

    def test_no_letters(self):
        for start in ([("a", 1)], [("a", 3), ("z", GREATEST)], tally(LETTERS)):
            self.assertEqual(tally_after(start, ""), start)
            self.assertIsNot(tally_after(start, ""), start)

    def test_each_call_doubles_and_takes_1(self):
        self.assertEqual(tally_after([("a", 1)], "a"), [("a", 1)])
        self.assertEqual(tally_after([("a", 1)], "a" * 64), [("a", 1)])
        self.assertEqual(tally_after([("a", 2)], "aaa"), [("a", 9)])
        self.assertEqual(tally_after([("b", 2), ("y", 5)], "yb"), [("b", 7), ("y", 18)])

    def test_64_letters(self):
        numbers = chance(403)
        for _ in range(30):
            start = random_tally(numbers, numbers.randint(1, 26), numbers.choice([1, 3, 1000, GREATEST]))
            letters = "".join(numbers.choice(start)[0] for _ in range(64))
            expected = []
            for letter, number in start:
                taken = sum(2 ** (63 - at) for at, one in enumerate(letters) if one == letter)
                expected.append((letter, number * 2 ** 64 - taken))
            self.assertEqual(same_after(self, tally_after, start, letters), expected)

    def test_great_numbers(self):
        start = [("a", GREATEST), ("b", 1)]
        self.assertEqual(tally_after(start, "a"), [("a", 2 * GREATEST - 1), ("b", 2)])
        self.assertEqual(tally_after(start, "b" * 64), [("a", GREATEST * 2 ** 64), ("b", 1)])

    def test_the_first_letter_that_is_not_there_is_told(self):
        start = [("b", 2), ("d", 3)]
        for letters, at in [("a", 0), ("c", 0), ("z", 0), ("ba", 1), ("bdc", 2), ("acz", 0), ("bca", 1), ("cb", 0),
                            ("b" * 63 + "a", 63), ("b" * 10 + "zdz", 10)]:
            with self.assertRaises(NoLetter) as caught:
                same_after(self, tally_after, start, letters)
            self.assertEqual(caught.exception.at, at)
        self.assertEqual(start, [("b", 2), ("d", 3)])


class Before(unittest.TestCase):

    def not_called(self, start):
        with self.assertRaises(NotCalled) as caught:
            tally_before(start)
        self.assertEqual(caught.exception.many, 0)

    def test_after_leads_to_before(self):
        numbers = chance(404)
        for _ in range(300):
            start = random_tally(numbers, numbers.randint(1, 26), numbers.choice([2, 5, 1000, GREATEST]))
            if sum(number for _, number in start) >= 2:
                letter = numbers.choice(start)[0]
                late = tally_after(start, letter)
                self.assertEqual(same_after(self, tally_before, late), (letter, start))
                self.assertIsInstance(tally_before(late), tuple)

    def test_made_rows_have_one_odd_number(self):
        for row, story in samples(405, 100, 6):
            if story:
                far = Far(row, story)
                letter, before = tally_before(far_tally(far))
                self.assertEqual(letter, far.called()[-1])
                self.assertEqual(before, far_tally(Far(row, story[:-1])))

    def test_not_exactly_one_odd_number(self):
        for start in ([("a", 2)], [("a", 4)], [("a", 2), ("b", 2)], [("a", 1), ("b", 1)], [("a", 3), ("b", 3)],
                      [("a", 1), ("b", 1), ("c", 1)], [("a", 1), ("b", 3), ("c", 2)], tally(LETTERS),
                      [("a", GREATEST)], [("a", GREATEST - 1), ("b", GREATEST - 1)], [("a", 1), ("b", 2), ("c", 1)]):
            self.not_called(start)

    def test_less_than_3_letters(self):
        self.not_called([("a", 1)])
        self.not_called([("z", 1)])
        self.not_called([("a", 2)])
        self.not_called([("a", 1), ("b", 1)])
        self.assertEqual(tally_before([("a", 3)]), ("a", [("a", 2)]))
        self.assertEqual(tally_before([("a", 1), ("b", 2)]), ("a", [("a", 1), ("b", 1)]))
        self.assertEqual(tally_before([("a", 2), ("b", 1)]), ("b", [("a", 1), ("b", 1)]))

    def test_great_numbers(self):
        self.assertEqual(tally_before([("a", 1), ("b", GREATEST)]), ("a", [("a", 1), ("b", GREATEST // 2)]))
        self.assertEqual(tally_before([("a", GREATEST), ("b", GREATEST - 1)]),
                         ("b", [("a", GREATEST // 2), ("b", GREATEST // 2)]))

    def test_returned_lists_are_new(self):
        late = [("a", 4), ("b", 2), ("c", 3)]
        _, before = tally_before(late)
        before.append(("z", 1))
        self.assertEqual(tally_before(late), ("c", [("a", 2), ("b", 1), ("c", 2)]))
        self.assertEqual(late, [("a", 4), ("b", 2), ("c", 3)])
        for query in (lambda: tally("abc"), lambda: far_tally(Far("abc", [])), lambda: tally_after(late, "")):
            told = query()
            told.clear()
            self.assertEqual(len(query()), 3)


class Called(unittest.TestCase):

    def check(self, start, letters):
        """See that these are all letters that the tally tells, and that fewer and more are told as they must be."""
        self.assertEqual(same_after(self, most_called, start), len(letters))
        for calls in range(min(64, len(letters)) + 1):
            self.assertEqual(same_after(self, called, start, calls), letters[len(letters) - calls:])
        for calls in (len(letters) + 1, len(letters) + 2, 64):
            if len(letters) < calls <= 64:
                with self.assertRaises(NotCalled) as caught:
                    same_after(self, called, start, calls)
                self.assertEqual(caught.exception.many, len(letters))

    def slowly(self, start):
        """All called letters, by going back as often as it can be done."""
        letters = ""
        while True:
            try:
                letter, start = tally_before(start)
            except NotCalled:
                return letters
            letters = letter + letters

    def test_none(self):
        for start in ([("a", 1)], [("a", 2)], [("a", 1), ("b", 1)], [("a", 2), ("b", 6)], tally(LETTERS),
                      [("a", 1), ("b", 1), ("c", 1)], [("a", GREATEST)]):
            self.check(start, "")

    def test_some(self):
        self.check([("a", 4), ("b", 2), ("c", 3)], "bc")
        self.check([("a", 3)], "a")
        self.check([("a", 5)], "aa")
        # 7 comes from 4, which no call makes.
        self.check([("a", 7)], "a")
        self.check([("a", 2), ("b", 1)], "b")

    def test_small_tallies(self):
        for a in range(1, 20):
            self.check([("a", a)], self.slowly([("a", a)]))
            for b in range(1, 20):
                for c in (1, 2, 3, 4, 8, 16):
                    start = [("a", a), ("b", b), ("c", c)]
                    self.check(start, self.slowly(start))

    def test_letters_of_stories(self):
        numbers = chance(406)
        for many in (0, 1, 2, 30, 63, 64):
            for _ in range(5):
                row = random_row(numbers, 9, 5)
                far = Far(row, random_story(numbers, row, many))
                self.assertEqual(called(far_tally(far), many), far.called())
                self.assertGreaterEqual(most_called(far_tally(far)), many)

    def test_a_seed_with_several_odd_numbers_tells_exactly_its_calls(self):
        numbers = chance(407)
        for _ in range(10):
            far = Far("abc", random_story(numbers, "abc", 64))
            self.check(far_tally(far), far.called())

    def test_great_numbers(self):
        # These are led back more often than 64 times.
        for start in ([("a", 2 ** 100 + 1)], [("a", 1), ("b", 2 ** 130)], tally_after([("a", GREATEST)], "a" * 64)):
            letters = self.slowly(start)
            self.assertGreaterEqual(len(letters), 64)
            self.check(start, letters)
        self.assertEqual(most_called([("a", 1), ("b", 2 ** 130)]), 130)
        self.assertEqual(called([("a", 1), ("b", 2 ** 130)], 64), "a" * 64)


if __name__ == "__main__":
    unittest.main()
