"""[2], [22], [23]: calls of places of rows that are written."""

import unittest

from ownlog.errors import NoCall, NoPlace, TooLong
from ownlog.rows import call, follow
from tests.helper import LETTERS, chance, random_row, random_story, same_after, written


def long_row(many):
    """A row in which places that are near to one another have different letters."""
    return "".join(LETTERS[at % 26] for at in range(many))


class Calls(unittest.TestCase):

    def test_every_place_of_short_rows(self):
        for row in ("ab", "aa", "abc", "abcd", "aab", "abcab", LETTERS):
            for place in range(len(row)):
                self.assertEqual(call(row, place), written(row, [place]))

    def test_the_ends_stay_and_the_last_place_doubles(self):
        for many in (2, 3, 17, 500):
            row = long_row(many)
            for place in (0, 1, many // 2, many - 2, many - 1):
                result = call(row, place)
                self.assertEqual((result[0], result[-1]), (row[0], row[-1]))
                self.assertEqual(len(result), 2 * many - 1)

    def test_rows_of_500_letters(self):
        row = long_row(500)
        for place in (0, 1, 250, 498, 499):
            self.assertEqual(call(row, place), written(row, [place]))

    def test_rows_of_more_letters_are_too_long(self):
        for many in (501, 502, 999, 1000):
            for place in (0, 1, 250, many - 2, many - 1):
                with self.assertRaises(TooLong) as caught:
                    call(long_row(many), place)
                self.assertEqual(caught.exception.limit, 1000)

    def test_places_that_the_row_does_not_have(self):
        for many in (2, 3, 500, 501, 1000):
            for place in (-1, -2, -many, -many - 1, many, many + 1, 2 * many - 2, 10 ** 100 - 1, 1 - 10 ** 100):
                with self.assertRaises(NoPlace) as caught:
                    call(long_row(many), place)
                self.assertEqual(caught.exception.place, place)


class Follows(unittest.TestCase):

    def raises_no_call(self, row, calls, at):
        with self.assertRaises(NoCall) as caught:
            follow(row, calls)
        self.assertEqual(caught.exception.at, at)

    def test_no_calls(self):
        for row in ("ab", "aa", "abcde", long_row(1000)):
            self.assertEqual(follow(row, []), row)

    def test_all_short_stories(self):
        for row in ("ab", "abc", "abca"):
            last = len(row) - 1
            for one in range(last + 1):
                for two in range(2 * last + 1):
                    for three in range(4 * last + 1):
                        calls = [one, two, three]
                        self.assertEqual(follow(row, calls), written(row, calls))

    def test_stories_by_chance(self):
        numbers = chance(23)
        for _ in range(300):
            row = random_row(numbers, 16, 5)
            calls = random_story(numbers, row, numbers.randint(0, 6))
            self.assertEqual(same_after(self, follow, row, calls), written(row, calls))

    def test_the_longest_rows_that_are_written(self):
        # 500 letters become 999; 2 letters become 513 by nine calls, and 1,025 by ten.
        self.assertEqual(follow(long_row(500), [499]), written(long_row(500), [499]))
        self.assertEqual(follow("ab", [1] * 9), written("ab", [1] * 9))
        self.assertEqual(len(follow("ab", [1] * 9)), 513)
        for row, calls in [("ab", [1] * 10), ("ab", [0] * 64), ("ab", [2 ** at for at in range(64)]),
                           (long_row(501), [0]), (long_row(1000), [999]), (long_row(1000), [999, 1998]),
                           (long_row(251), [1, 2]), (long_row(501), [500])]:
            with self.assertRaises(TooLong) as caught:
                same_after(self, follow, row, calls)
            self.assertEqual(caught.exception.limit, 1000)
        self.assertEqual(len(follow(long_row(250), [1, 2])), 997)

    def test_the_first_call_that_is_no_place(self):
        self.raises_no_call("abc", [3], 0)
        self.raises_no_call("abc", [-1], 0)
        self.raises_no_call("abc", [1, 5], 1)
        self.raises_no_call("abc", [1, -5], 1)
        self.raises_no_call("abc", [2, 4, 9, 3], 2)
        self.raises_no_call("abc", [3, -1, 99], 0)
        self.raises_no_call("abc", [1, 10 ** 100 - 1], 1)
        self.raises_no_call("abc", [1, 1 - 10 ** 100, -1], 1)

    def test_places_of_the_row_made_by_then_however_long_it_is(self):
        for many in range(64):
            calls = [0] * many
            last_then = 2 ** many
            self.raises_no_call("ab", calls + [last_then + 1], many)
            self.raises_no_call("ab", calls + [-1] + [0] * (63 - many), many)
            with self.assertRaises(TooLong):
                follow("ab", calls + [last_then] + [0] * (63 - many))

    def test_a_call_that_is_no_place_comes_before_too_long(self):
        self.raises_no_call(long_row(1000), [0, 1999], 1)
        self.raises_no_call(long_row(1000), [1000], 0)
        self.raises_no_call(long_row(501), [500, 1001, 5000], 1)
        self.raises_no_call("ab", [0] * 20 + [2 ** 20 + 1] + [-1], 20)

    def test_the_list_stays_as_it_was(self):
        for calls in ([1, 3], [1, 5], [0] * 64, []):
            before = list(calls)
            try:
                follow("abc", calls)
            except (NoCall, TooLong):
                pass
            self.assertEqual(calls, before)


if __name__ == "__main__":
    unittest.main()
