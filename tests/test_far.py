"""[2] to [5], [30]: long rows."""

import unittest

from ownlog.errors import NoPlace, TooLong, TooMany, Wrong
from ownlog.far import Far
from tests.helper import LETTERS, chance, far_letter, far_origins, other_things, random_row, random_story, written

LONGEST = "".join(LETTERS[at * at % 26] for at in range(1000))


class AlwaysEqual:
    """A thing that says it is equal to everything."""

    def __eq__(self, other):
        return True

    def row(self):
        return "ab"

    def story(self):
        return []


def samples(seed, many, calls, most=7, letters=4):
    """Rows with stories, up to so many calls."""
    numbers = chance(seed)
    for _ in range(many):
        row = random_row(numbers, most, letters)
        yield row, random_story(numbers, row, numbers.randint(0, calls))


def far_ones(seed, many):
    """Rows with stories of 64 calls, among them the shortest and the longest rows."""
    numbers = chance(seed)
    rows = ["ab", LONGEST] + [random_row(numbers, 30, 6) for _ in range(many)]
    for row in rows:
        yield row, random_story(numbers, row, 64)
    yield "abc", [0] * 64
    yield "abc", [2 * 2 ** at for at in range(64)]
    yield "abc", [2 ** at for at in range(64)]


def edges(row, story):
    """Places of a long row at its ends, beside the last called place and where its pieces begin."""
    length = (len(row) - 1) * 2 ** len(story) + 1
    found = {0, 1, length // 2, length - 2, length - 1}
    if story:
        last = (length - 1) // 2
        for edge in (story[-1], 2 * story[-1], story[-1] + last, last):
            found |= {edge - 1, edge, edge + 1}
    return sorted(place for place in found if 0 <= place < length)


class Made(unittest.TestCase):

    def raises_wrong(self, row, story, place):
        with self.assertRaises(Wrong) as caught:
            Far(row, story)
        self.assertEqual(caught.exception.place, place)

    def test_what_is_no_row(self):
        things = other_things() + [0, "", "a", "A", "aB", "ab ", "a b", "ab\n", "a" * 1001, ["a", "b"], [], ["ab"]]
        for thing in things:
            self.raises_wrong(thing, [], 0)
            self.raises_wrong(thing, [0], 0)

    def test_both_are_wrong(self):
        for thing in other_things() + ["", "a", "A", "a" * 1001]:
            for story in (None, "", (0,), [-1], [5000], [True], [0] * 65, 0):
                self.raises_wrong(thing, story, 0)

    def test_what_is_no_story(self):
        for thing in other_things() + [0, "", "0", (0,), (0, 1)]:
            self.raises_wrong("abc", thing, 1)
        for story in ([3], [-1], [0, 5], [1, 4, 9], [1, -1], [True], [False], [0, True], ["0"], [None], [[0]],
                      [0] * 65, [0] * 64 + [-1], [10 ** 99], [-10 ** 99]):
            self.raises_wrong("abc", story, 1)

    def test_a_story_is_one_of_the_row(self):
        self.assertEqual(Far("abc", [2, 4]).story(), [2, 4])
        self.raises_wrong("ab", [2, 4], 1)
        self.raises_wrong("ab", [1, 3], 1)
        self.assertEqual(Far(LONGEST, [999, 1998]).story(), [999, 1998])
        self.raises_wrong(LONGEST, [1000], 1)
        self.raises_wrong(LONGEST, [999, 1999], 1)

    def test_rows_of_2_and_of_1000_letters(self):
        for row in ("ab", "zz", LONGEST, "a" * 1000):
            for story in ([], [0], [len(row) - 1], [0] * 64):
                self.assertEqual([Far(row, story).row(), Far(row, story).story()], [row, story])

    def test_what_was_passed_stays_and_may_be_changed_later(self):
        story = [1, 3]
        far = Far("abc", story)
        self.assertEqual(story, [1, 3])
        story.append(0)
        story[0] = 2
        self.assertEqual(far.story(), [1, 3])
        self.assertEqual([far.length(), far.piece(0, 9), far.called()], [9, "aabaabccc", "bc"])
        self.assertEqual(far, Far("abc", [1, 3]))

    def test_lists_that_were_returned_may_be_changed(self):
        far = Far("abc", [1, 3])
        for query, expected in [(far.story, [1, 3]), (lambda: far.origins(7), [7, 4, 2])]:
            told = query()
            told.append(9)
            told[0] = 8
            self.assertEqual(query(), expected)
            self.assertIsNot(query(), query())
        self.assertEqual(far, Far("abc", [1, 3]))

    def test_queries_change_nothing(self):
        far = Far("abcb", [2, 5, 0])
        for _ in range(3):
            self.assertEqual(far.piece(0, far.length()), written("abcb", [2, 5, 0]))
            far.after(4)
            far.called()
            far.origins(3)
            with self.assertRaises(NoPlace):
                far.after(99)
            with self.assertRaises(TooLong):
                far.piece(0, 1001)
            self.assertEqual([far.row(), far.story(), far.length()], ["abcb", [2, 5, 0], 25])


class Equality(unittest.TestCase):

    def test_fars_of_the_same_row_and_story(self):
        for row, story in samples(31, 50, 64):
            self.assertTrue(Far(row, story) == Far(row, list(story)))
            self.assertFalse(Far(row, story) != Far(row, list(story)))
            self.assertIs(Far(row, story) == Far(row, story), True)

    def test_fars_of_other_rows_and_stories(self):
        far = Far("abc", [1, 3])
        # The last two are the same long row, but made of other things.
        others = [Far("abc", [1]), Far("abc", []), Far("abc", [2, 3]), Far("abd", [1, 3]), Far("abcd", [1, 3]),
                  Far("abc", [1, 3, 0]), Far("abc", [1, 2]), Far("aabcc", [1, 3]), Far("aabcc", [3]),
                  Far("aabaabccc", [])]
        for other in others:
            self.assertIs(far == other, False, repr(other))
            self.assertIs(other == far, False, repr(other))
            self.assertIs(far != other, True, repr(other))

    def test_other_things(self):
        far = Far("ab", [])
        things = [0, None, True, "ab", "Far('ab', [])", ("ab", []), ["ab", []], {"ab": []}, object(), Far,
                  AlwaysEqual()]
        for thing in things:
            self.assertIs(far == thing, False)
            self.assertIs(far != thing, True)


class Shown(unittest.TestCase):

    def test_repr(self):
        for row, story in [("ab", []), ("abc", [1, 3]), ("zz", [0] * 64), (LONGEST, [999, 1998, 12])]:
            self.assertEqual(repr(Far(row, story)), f"Far({row!r}, {story!r})")
        self.assertEqual(repr(Far("abc", [1, 3])), "Far('abc', [1, 3])")
        self.assertEqual(str(Far("ab", [])), "Far('ab', [])")


class Letters(unittest.TestCase):

    def raises_no_place(self, function, place, *rest):
        with self.assertRaises(NoPlace) as caught:
            function(place, *rest)
        self.assertEqual(caught.exception.place, place)

    def test_written_rows(self):
        for row, story in samples(301, 150, 6):
            far = Far(row, story)
            text = written(row, story)
            self.assertEqual(far.length(), len(text))
            self.assertEqual("".join(far.letter(place) for place in range(len(text))), text)

    def test_the_empty_story(self):
        for row in ("ab", LONGEST):
            far = Far(row, [])
            self.assertEqual([far.length(), far.piece(0, len(row)), far.called()], [len(row), row, ""])
            self.assertEqual([far.origins(0), far.origins(1)], [[0], [1]])

    def test_lengths(self):
        for many in range(65):
            self.assertEqual(Far("ab", [0] * many).length(), 2 ** many + 1)
            self.assertEqual(Far(LONGEST, [5] * many).length(), 999 * 2 ** many + 1)

    def test_origins_of_written_rows(self):
        for row, story in samples(302, 100, 4):
            far = Far(row, story)
            for place in range(far.length()):
                places = far.origins(place)
                self.assertEqual(places, far_origins(row, story, place))
                self.assertEqual(len(places), len(story) + 1)
                # Each of these places has the same letter in the row of its time.
                for back, there in enumerate(places):
                    then = written(row, story[:len(story) - back])
                    self.assertEqual(then[there], far.letter(place))

    def test_stories_of_64_calls(self):
        for row, story in far_ones(303, 10):
            far = Far(row, story)
            for place in edges(row, story):
                self.assertEqual(far.origins(place), far_origins(row, story, place))
                self.assertEqual(far.letter(place), far_letter(row, story, place))

    def test_places_that_the_long_row_does_not_have(self):
        for row, story in list(far_ones(304, 2)) + [("ab", []), ("abc", [1, 3]), (LONGEST, [])]:
            far = Far(row, story)
            length = far.length()
            for place in (-1, -2, -length, length, length + 1, 2 * length, 10 ** 100 - 1, 1 - 10 ** 100):
                self.raises_no_place(far.letter, place)
                self.raises_no_place(far.origins, place)
                self.raises_no_place(far.after, place)
            self.assertEqual([far.letter(0), far.letter(length - 1)], [row[0], row[-1]])

    def test_called_letters(self):
        for row, story in samples(305, 200, 7):
            letters = "".join(written(row, story[:at])[place] for at, place in enumerate(story))
            self.assertEqual(Far(row, story).called(), letters)

    def test_64_called_letters(self):
        for row, story in far_ones(306, 6):
            letters = "".join(far_letter(row, story[:at], place) for at, place in enumerate(story))
            self.assertEqual(Far(row, story).called(), letters)

    def test_after(self):
        for row, story in samples(307, 100, 5):
            far = Far(row, story)
            for place in edges(row, story):
                after = far.after(place)
                self.assertEqual([after.row(), after.story()], [row, story + [place]])
                self.assertEqual(after, Far(row, story + [place]))
                self.assertEqual(after.length(), 2 * far.length() - 1)
                self.assertEqual(after.called()[-1], far.letter(place))
            self.assertEqual(far, Far(row, story))

    def test_after_63_and_64_calls(self):
        for row, story in far_ones(308, 3):
            far = Far(row, story[:63])
            last = far.length() - 1
            for place in (0, 1, last // 2, last):
                self.assertEqual(far.after(place).story(), story[:63] + [place])
            self.raises_no_place(far.after, last + 1)
            full = Far(row, story)
            for place in (0, 1, full.length() // 2, full.length() - 1):
                with self.assertRaises(TooMany) as caught:
                    full.after(place)
                self.assertEqual(caught.exception.limit, 64)
            for place in (-1, full.length()):
                self.raises_no_place(full.after, place)
            self.assertEqual(full, Far(row, story))


class Pieces(unittest.TestCase):

    def test_all_pieces_of_written_rows(self):
        for row, story in samples(310, 25, 3, 5):
            far = Far(row, story)
            text = written(row, story)
            for start in range(len(text) + 1):
                for many in range(len(text) - start + 1):
                    self.assertEqual(far.piece(start, many), text[start:start + many])

    def test_pieces_of_0_1000_and_1001_letters(self):
        row, story = LONGEST, [500, 3, 3996]
        far = Far(row, story)
        text = written(row, story)
        last = len(text) - 1
        for start in (0, 1, 999, 2500, 3995, last - 999):
            for many in (0, 1, 999, 1000):
                self.assertEqual(far.piece(start, many), text[start:start + many])
            for many in (1001, 1002, 10 ** 99):
                with self.assertRaises(TooLong) as caught:
                    far.piece(start, many)
                self.assertEqual(caught.exception.limit, 1000)

    def test_pieces_beyond_the_end(self):
        for row, story in [("ab", []), ("abc", [1, 3]), (LONGEST, []), (LONGEST, [7]), ("ab", [1] * 64)]:
            far = Far(row, story)
            length = far.length()
            self.assertEqual(far.piece(length, 0), "")
            self.assertEqual(far.piece(length - 1, 1), row[-1])
            self.assertEqual(far.piece(length - 1, 0), "")
            for start, many in [(length, 1), (length - 1, 2), (length + 1, 0), (length + 5, 1), (0, length + 1),
                                (10 ** 100 - 1, 0), (10 ** 100 - 1, 1000), (length - 999, 1000)]:
                if many <= 1000 and start >= 0:
                    with self.assertRaises(NoPlace) as caught:
                        far.piece(start, many)
                    self.assertEqual(caught.exception.place, start)

    def test_too_long_comes_first(self):
        far = Far("abc", [1])
        for start in (0, 4, 5, 6, 10 ** 99):
            with self.assertRaises(TooLong):
                far.piece(start, 1001)

    def test_pieces_of_rows_that_cannot_be_written(self):
        for row, story in far_ones(311, 4):
            far = Far(row, story)
            for start in edges(row, story):
                many = min(30, far.length() - start)
                expected = "".join(far_letter(row, story, place) for place in range(start, start + many))
                self.assertEqual(far.piece(start, many), expected)
            start = far.length() - 1000
            self.assertEqual(len(far.piece(start, 1000)), 1000)


if __name__ == "__main__":
    unittest.main()
