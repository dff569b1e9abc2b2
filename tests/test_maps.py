"""[24]: which places show one another after a call."""

import unittest

from ownlog.maps import shown, showing
from tests.helper import chance, old_place, same_after

GREATEST = 10 ** 40


class Maps(unittest.TestCase):

    def check(self, last, called, place):
        """See that a place of the new row shows the old one that the pieces tell, and is shown by it."""
        old = shown(last, called, place)
        self.assertEqual(old, old_place(last, called, place), (last, called, place))
        self.assertIn(place, showing(last, called, old))

    def check_old(self, last, called, place):
        """See that exactly the places in the list show a place of the old row."""
        found = same_after(self, showing, last, called, place)
        self.assertEqual(len(found), 1 if place == called else 2)
        self.assertEqual(found, sorted(set(found)))
        for new in found:
            self.assertTrue(0 <= new <= 2 * last)
            self.assertEqual(old_place(last, called, new), place, (last, called, place))

    def test_all_places_for_small_last_places(self):
        for last in range(1, 14):
            for called in range(last + 1):
                news = {}
                for place in range(2 * last + 1):
                    self.check(last, called, place)
                    news.setdefault(shown(last, called, place), []).append(place)
                self.assertEqual(sorted(news), list(range(last + 1)))
                for place in range(last + 1):
                    self.assertEqual(showing(last, called, place), news[place], (last, called, place))

    def test_the_letters_are_repeated(self):
        row = "abcdefg"
        for called in range(7):
            new = row[:called] * 2 + row[called] + row[called + 1:] * 2
            self.assertEqual("".join(row[shown(6, called, place)] for place in range(13)), new)

    def test_great_last_places(self):
        for last in (GREATEST, GREATEST - 1, 10 ** 20 + 7, 2 ** 64, 1000):
            calls = {0, 1, 2, last // 2, last // 3, last - 2, last - 1, last}
            for called in sorted(calls):
                edges = [0, called, 2 * called, called + last, 2 * last, last, called // 2, last + called // 2]
                for place in sorted({edge + by for edge in edges for by in (-2, -1, 0, 1, 2)}):
                    if 0 <= place <= 2 * last:
                        self.check(last, called, place)
                    if 0 <= place <= last:
                        self.check_old(last, called, place)

    def test_great_last_places_by_chance(self):
        numbers = chance(24)
        for _ in range(500):
            last = numbers.randint(1, 10 ** numbers.randint(1, 40))
            called = numbers.randint(0, last)
            self.check(last, called, numbers.randint(0, 2 * last))
            self.check_old(last, called, numbers.randint(0, last))

    def test_calls_of_the_ends(self):
        for last in (1, 2, 5, GREATEST):
            self.assertEqual(showing(last, 0, 0), [0])
            self.assertEqual(showing(last, 0, last), [last, 2 * last])
            self.assertEqual(showing(last, last, last), [2 * last])
            self.assertEqual(showing(last, last, 0), [0, last])
            self.assertEqual([shown(last, 0, 0), shown(last, 0, last), shown(last, 0, last + 1)], [0, last, 1])
            self.assertEqual([shown(last, last, 0), shown(last, last, last), shown(last, last, 2 * last)],
                             [0, 0, last])

    def test_returned_lists_are_new(self):
        for place in (0, 1, 2):
            first = showing(2, 1, place)
            first.append(7)
            self.assertNotIn(7, showing(2, 1, place))


if __name__ == "__main__":
    unittest.main()
