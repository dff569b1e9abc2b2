"""[31], [32]: counts of letters and of copies in long rows."""

import unittest

from ownlog.errors import NoNumber, NoPlace
from ownlog.far import Far
from ownlog.reading import copies, copies_before, copy_at, count_before, letter_place
from tests.helper import chance, far_counter, far_letter, far_origins, random_row, random_story, written
from tests.test_far import LONGEST, edges, far_ones, samples


def places_of(row, letter):
    return [place for place, own in enumerate(row) if own == letter]


class Reading(unittest.TestCase):

    def raises(self, error, field, value, function, *arguments):
        with self.assertRaises(error) as caught:
            function(*arguments)
        self.assertEqual(getattr(caught.exception, field), value)


class Letters(Reading):

    def test_written_rows(self):
        for row, story in samples(320, 120, 5):
            far = Far(row, story)
            text = written(row, story)
            for letter in "abcdz":
                places = places_of(text, letter)
                for stop in range(len(text) + 1):
                    self.assertEqual(count_before(far, letter, stop), text[:stop].count(letter))
                for number, place in enumerate(places):
                    self.assertEqual(letter_place(far, letter, number), place)
                for number in (len(places), len(places) + 1, 10 ** 99):
                    self.raises(NoNumber, "number", number, letter_place, far, letter, number)
            self.assertEqual(far, Far(row, story))

    def test_rows_of_1000_letters(self):
        for story in ([], [0], [999], [500, 3]):
            far = Far(LONGEST, story)
            text = written(LONGEST, story)
            for letter in ("a", "j", "b", "z"):
                places = places_of(text, letter)
                for stop in (0, 1, 2, 499, 500, 501, 999, 1000, len(text) - 1, len(text)):
                    if stop <= len(text):
                        self.assertEqual(count_before(far, letter, stop), text[:stop].count(letter))
                for number in range(0, len(places), 17):
                    self.assertEqual(letter_place(far, letter, number), places[number])
                self.raises(NoNumber, "number", len(places), letter_place, far, letter, len(places))

    def test_stories_of_64_calls(self):
        numbers = chance(321)
        for row, story in far_ones(321, 6):
            far = Far(row, story)
            length = far.length()
            for letter in sorted(set(row))[:4]:
                count = far_counter(row, story, places_of(row, letter))
                stops = edges(row, story) + [length] + [numbers.randint(0, length) for _ in range(4)]
                for stop in stops:
                    self.assertEqual(count_before(far, letter, stop), count(stop))
                total = count_before(far, letter, length)
                for number in (0, 1, total // 3, total // 2, total - 2, total - 1):
                    if 0 <= number < total:
                        place = letter_place(far, letter, number)
                        self.assertEqual(far_letter(row, story, place), letter)
                        self.assertEqual(count(place), number)
                for number in (total, total + 1, 10 ** 99):
                    self.raises(NoNumber, "number", number, letter_place, far, letter, number)

    def test_letters_that_do_not_occur(self):
        for far in (Far("abc", []), Far("abc", [1, 3]), Far("abc", [0] * 64)):
            self.assertEqual([count_before(far, "d", 0), count_before(far, "d", far.length())], [0, 0])
            self.raises(NoNumber, "number", 0, letter_place, far, "d", 0)

    def test_stops_at_the_ends_and_beyond(self):
        for row, story in list(far_ones(322, 2)) + [("ab", []), ("abc", [1, 3]), (LONGEST, [])]:
            far = Far(row, story)
            length = far.length()
            self.assertEqual(count_before(far, row[0], 0), 0)
            self.assertEqual(count_before(far, row[0], 1), 1)
            self.assertEqual(count_before(far, row[-1], length) - count_before(far, row[-1], length - 1), 1)
            for stop in (-1, -length, length + 1, 2 * length, 10 ** 100 - 1, 1 - 10 ** 100):
                self.raises(NoPlace, "place", stop, count_before, far, row[0], stop)

    def test_numbers_are_counted_from_0(self):
        # Each call is that of the last place, so this is one b after many a.
        far = Far("ab", [2 ** at for at in range(64)])
        self.assertEqual([letter_place(far, "a", number) for number in (0, 1, 2, 2 ** 64 - 1)], [0, 1, 2, 2 ** 64 - 1])
        self.assertEqual(letter_place(far, "b", 0), 2 ** 64)
        self.raises(NoNumber, "number", 1, letter_place, far, "b", 1)


class Copies(Reading):

    def descending(self, row, story):
        """For each place of the row, the places of the written row that descend from it."""
        found = {place: [] for place in range(len(row))}
        for place in range((len(row) - 1) * 2 ** len(story) + 1):
            found[far_origins(row, story, place)[-1]].append(place)
        return found

    def test_written_rows(self):
        for row, story in samples(323, 80, 5):
            far = Far(row, story)
            for place, places in self.descending(row, story).items():
                self.assertEqual(copies(far, place), len(places))
                self.assertEqual([copy_at(far, place, number) for number in range(len(places))], places)
                for stop in range(far.length() + 1):
                    self.assertEqual(copies_before(far, place, stop), len([new for new in places if new < stop]))
                for number in (len(places), len(places) + 1, 10 ** 99):
                    self.raises(NoNumber, "number", number, copy_at, far, place, number)
            self.assertEqual(far, Far(row, story))

    def test_rows_of_1000_letters(self):
        for story in ([], [500], [999, 0]):
            far = Far(LONGEST, story)
            found = self.descending(LONGEST, story)
            for place in (0, 1, 499, 500, 501, 998, 999):
                self.assertEqual(copies(far, place), len(found[place]))
                self.assertEqual([copy_at(far, place, number) for number in range(len(found[place]))], found[place])

    def test_stories_of_64_calls(self):
        numbers = chance(324)
        for row, story in far_ones(324, 6):
            far = Far(row, story)
            length = far.length()
            for place in sorted({0, 1, len(row) // 2, len(row) - 2, len(row) - 1}):
                count = far_counter(row, story, [place])
                total = count(length)
                self.assertEqual(copies(far, place), total)
                for stop in edges(row, story) + [length, numbers.randint(0, length)]:
                    self.assertEqual(copies_before(far, place, stop), count(stop))
                for number in (0, 1, total // 2, total - 1):
                    if number < total:
                        copy = copy_at(far, place, number)
                        self.assertEqual(far_origins(row, story, copy)[-1], place)
                        self.assertEqual(count(copy), number)
                for number in (total, total + 1, 10 ** 99):
                    self.raises(NoNumber, "number", number, copy_at, far, place, number)

    def test_all_places_descend_from_one(self):
        numbers = chance(325)
        for _ in range(20):
            row = random_row(numbers, 12)
            far = Far(row, random_story(numbers, row, 64))
            self.assertEqual(sum(copies(far, place) for place in range(len(row))), far.length())

    def test_places_that_the_row_does_not_have(self):
        for row, story in [("ab", []), ("abc", [1, 3]), (LONGEST, [0]), ("abc", [1] * 64)]:
            far = Far(row, story)
            many = len(row)
            self.assertGreaterEqual(copies(far, many - 1), 1)
            for place in (-1, -many, -many - 1, many, many + 1, far.length() + many, 10 ** 100 - 1, 1 - 10 ** 100):
                self.raises(NoPlace, "place", place, copies, far, place)
                for number in (0, 1, 10 ** 99):
                    self.raises(NoPlace, "place", place, copy_at, far, place, number)
                for stop in (0, 1, -7, 10 ** 99):
                    self.raises(NoPlace, "place", place, copies_before, far, place, stop)

    def test_stops_at_the_ends_and_beyond(self):
        for row, story in [("ab", []), ("abc", [1, 3]), (LONGEST, [0]), ("abc", [1] * 64)]:
            far = Far(row, story)
            length = far.length()
            for place in (0, len(row) - 1):
                self.assertEqual(copies_before(far, place, 0), 0)
                self.assertEqual(copies_before(far, place, length), copies(far, place))
                for stop in (-1, -length, length + 1, 10 ** 100 - 1, 1 - 10 ** 100):
                    self.raises(NoPlace, "place", stop, copies_before, far, place, stop)


if __name__ == "__main__":
    unittest.main()
