"""[5], [80], [81]: patterns in long rows."""

import itertools
import unittest

from ownlog.far import Far
from ownlog.patterns import (first_from, next_letters, occurrences, occurrences_before, pairs, pattern_place)
from ownlog.reading import count_before
from tests.helper import (LETTERS, chance, far_letter, pattern_counter, places_in, random_row, random_story, refusal,
                          written)
from tests.test_far import LONGEST, edges, far_ones, samples


def patterns_of(numbers, text, most=8):
    """Patterns of 1 to most letters: pieces of the text, the same with one letter changed, and others."""
    for many in range(1, most + 1):
        if many <= len(text):
            at = numbers.randint(0, len(text) - many)
            piece = text[at:at + many]
            yield piece
            yield piece[:-1] + numbers.choice("abz")
        yield numbers.choice("ab") * many
        yield "".join(numbers.choice("ab") for _ in range(many))


def over_cuts(row, story, most=8):
    """Pieces of a written row that stand over the cuts of the last call, and at its ends."""
    text = written(row, story)
    last = (len(text) - 1) // 2
    for cut in (story[-1], story[-1] + last + 1):
        for before in range(1, most):
            for many in (before + 1, most):
                piece = text[max(0, cut - before):max(0, cut - before) + many]
                if piece:
                    yield piece
    yield text[:most]
    yield text[-most:]


class Occurrences(unittest.TestCase):

    def check(self, far, text, pattern):
        """Compare everything that is told of a pattern with a look at every place."""
        places = places_in(text, pattern)
        self.assertEqual(occurrences(far, pattern), len(places))
        for stop in range(len(text) + 1):
            self.assertEqual(occurrences_before(far, pattern, stop), len([at for at in places if at < stop]))
            later = [at for at in places if at >= stop]
            self.assertEqual(first_from(far, pattern, stop), later[0] if later else None)
        for number, place in enumerate(places):
            self.assertEqual(pattern_place(far, pattern, number), place)
        for number in (len(places), len(places) + 1, 10 ** 99):
            self.assertEqual(refusal(pattern_place, far, pattern, number), f"NoNumber({number})")
        for place in (-1, len(text) + 1, -10 ** 99, 10 ** 99):
            self.assertEqual(refusal(occurrences_before, far, pattern, place), f"NoPlace({place})")
            self.assertEqual(refusal(first_from, far, pattern, place), f"NoPlace({place})")

    def test_all_small_rows_and_calls(self):
        texts = ["".join(text) for many in (2, 3) for text in itertools.product("ab", repeat=many)]
        shorts = ["".join(text) for many in (1, 2, 3) for text in itertools.product("ab", repeat=many)]
        for row in texts:
            for one in range(len(row)):
                for two in range(2 * len(row) - 1):
                    text = written(row, [one, two])
                    far = Far(row, [one, two])
                    for pattern in shorts + ["abab", "aaaaa", "bab" * 2, text[:8], text[-8:]]:
                        places = places_in(text, pattern)
                        self.assertEqual(occurrences(far, pattern), len(places))
                        told = [pattern_place(far, pattern, number) for number in range(len(places))]
                        self.assertEqual(told, places)

    def test_written_rows(self):
        numbers = chance(800)
        for row, story in samples(801, 30, 4):
            text = written(row, story)
            for pattern in patterns_of(numbers, text):
                self.check(Far(row, story), text, pattern)

    def test_patterns_over_the_cuts(self):
        numbers = chance(802)
        for calls in (1, 2, 3):
            for _ in range(5):
                row = random_row(numbers, 12, 3)
                story = random_story(numbers, row, calls)
                text = written(row, story)
                for pattern in over_cuts(row, story):
                    self.check(Far(row, story), text, pattern)

    def test_patterns_that_overlap_themselves(self):
        for row, story in [("aa", [0, 1]), ("aab", [2, 1]), ("abab", [1, 3]), ("aaaaaaaa", []), ("ababa", [4])]:
            text = written(row, story)
            for pattern in ("a", "aa", "aaa", "aaaaaaaa", "ab", "aba", "abab", "ababa", "abababab"):
                self.check(Far(row, story), text, pattern)
        self.assertEqual(occurrences(Far("aa", [0, 0, 0]), "aaaaaaaa"), 2)

    def test_patterns_as_long_as_the_row_and_longer(self):
        for row, story in [("ab", []), ("ab", [0]), ("ab", [1, 1]), ("abc", [1]), ("abcabcab", []), ("abcabcb", [])]:
            text = written(row, story)
            for pattern in [text[:8], (text + "a")[:8], ("a" + text)[:8], "abcabcab", "abbbb"]:
                self.check(Far(row, story), text, pattern)

    def test_rows_of_1000_letters(self):
        for story in ([], [0], [999], [500, 3]):
            text = written(LONGEST, story)
            far = Far(LONGEST, story)
            for pattern in [LONGEST[:8], LONGEST[-8:], LONGEST[496:504], "a", "z", text[3:5]]:
                places = places_in(text, pattern)
                self.assertEqual(occurrences(far, pattern), len(places))
                for number in range(0, len(places), 1 + len(places) // 9):
                    self.assertEqual(pattern_place(far, pattern, number), places[number])
                for stop in {0, 1, 7, 8, 9, 499, 500, 501, 999, 1000, len(text) - 8, len(text) - 1, len(text)}:
                    if stop <= len(text):
                        before = len([at for at in places if at < stop])
                        self.assertEqual(occurrences_before(far, pattern, stop), before)
                        told = first_from(far, pattern, stop)
                        self.assertEqual(told, places[before] if before < len(places) else None)

    def check_far(self, row, story, pattern, numbers):
        """Compare what is told of a long row with a count by its pieces."""
        far = Far(row, story)
        length = far.length()
        count = pattern_counter(row, story, pattern)
        total = count(length)
        self.assertEqual(occurrences(far, pattern), total)
        for stop in edges(row, story)[::4] + [length, numbers.randint(0, length)]:
            before = count(stop)
            self.assertEqual(occurrences_before(far, pattern, stop), before)
            place = first_from(far, pattern, stop)
            self.assertEqual(place is None, before == total)
            if place is not None:
                self.assertEqual([place >= stop, count(place), count(place + 1)], [True, before, before + 1])
        for number in sorted({0, total // 2, total - 1, numbers.randint(0, total)}):
            if 0 <= number < total:
                place = pattern_place(far, pattern, number)
                self.assertEqual([count(place), count(place + 1)], [number, number + 1])
                found = "".join(far_letter(row, story, place + at) for at in range(len(pattern)))
                self.assertEqual(found, pattern)
        self.assertEqual(refusal(pattern_place, far, pattern, total), f"NoNumber({total})")
        for place in (-1, length + 1):
            self.assertEqual(refusal(occurrences_before, far, pattern, place), f"NoPlace({place})")
            self.assertEqual(refusal(first_from, far, pattern, place), f"NoPlace({place})")

    def test_stories_of_64_calls(self):
        numbers = chance(803)
        for row, story in far_ones(804, 3):
            far = Far(row, story)
            cut = story[-1]
            many = numbers.randint(2, 8)
            for pattern in (row[:many], far.piece(max(0, cut - 3), 8), far.piece(cut + (far.length() - 1) // 2, 1)):
                self.check_far(row, story, pattern, numbers)

    def test_long_rows_of_one_letter(self):
        for many in range(1, 9):
            far = Far("aa", [0, 2] + [1] * 62)
            length = 2 ** 64 + 1
            self.assertEqual(occurrences(far, "a" * many), length - many + 1)
            self.assertEqual(occurrences(far, "a" * (many - 1) + "b"), 0)
            for place in (0, 1, 2 ** 63, length - many):
                self.assertEqual(pattern_place(far, "a" * many, place), place)
                self.assertEqual(first_from(far, "a" * many, place), place)
                self.assertEqual(occurrences_before(far, "a" * many, place), place)
            self.assertIsNone(first_from(far, "a" * many, length - many + 1))

    def test_patterns_of_one_letter_are_letters(self):
        for row, story in far_ones(805, 2):
            far = Far(row, story)
            for letter in sorted(set(row))[:3]:
                for stop in edges(row, story):
                    self.assertEqual(occurrences_before(far, letter, stop), count_before(far, letter, stop))

    def test_queries_change_nothing(self):
        far = Far("abcab", [2, 5])
        for _ in range(2):
            self.assertEqual(occurrences(far, "ab"), len(places_in(written("abcab", [2, 5]), "ab")))
            refusal(first_from, far, "ab", 100)
            refusal(pattern_place, far, "ab", 100)
        self.assertEqual(far, Far("abcab", [2, 5]))


def plain_pairs(text):
    found = {text[at:at + 2] for at in range(len(text) - 1)}
    return sorted((pair, len(places_in(text, pair))) for pair in found)


def plain_next(text, pattern):
    places = [at + len(pattern) for at in places_in(text, pattern)]
    return "".join(sorted({text[place] for place in places if place < len(text)}))


class Neighbours(unittest.TestCase):

    def test_written_rows(self):
        numbers = chance(810)
        for row, story in samples(811, 150, 5):
            text = written(row, story)
            far = Far(row, story)
            self.assertEqual(pairs(far), plain_pairs(text))
            for pattern in patterns_of(numbers, text, 7):
                self.assertEqual(next_letters(far, pattern), plain_next(text, pattern))

    def test_calls_at_the_ends(self):
        for row in ("ab", "ba", "aa", "abc", "abca", "cab", "aab", "abb"):
            for story in ([0], [len(row) - 1], [0, 0], [0, 2 * len(row) - 2], [1, 0, 4 * len(row) - 4]):
                text = written(row, story)
                self.assertEqual(pairs(Far(row, story)), plain_pairs(text))
                for many in range(1, 8):
                    for pattern in {text[:many], text[-many:], text[1:many + 1]}:
                        self.assertEqual(next_letters(Far(row, story), pattern), plain_next(text, pattern))

    def test_patterns_at_the_end_only(self):
        for many in range(1, 8):
            row = "a" * 9 + LETTERS[1:many + 1]
            self.assertEqual(next_letters(Far(row, []), row[-many:]), "")
            self.assertEqual(next_letters(Far(row + "z", []), row[-many:]), "z")
        self.assertEqual(next_letters(Far("aab", [0] * 64), "b"), "a")
        self.assertEqual(next_letters(Far("aab", [2 * 2 ** at for at in range(64)]), "b"), "")
        self.assertEqual(next_letters(Far("ab", []), "b"), "")
        self.assertEqual(next_letters(Far("ab", []), "abababa"), "")
        self.assertEqual(next_letters(Far("ab", []), "ab"), "")

    def test_rows_of_one_letter(self):
        self.assertEqual(pairs(Far("aa", [])), [("aa", 1)])
        for row in ("aa", "aaaa", "a" * 1000):
            for story in ([], [0], [1] * 64):
                far = Far(row, story)
                self.assertEqual(pairs(far), [("aa", far.length() - 1)])
                for many in range(1, 8):
                    self.assertEqual(next_letters(far, "a" * many), "a" if far.length() > many else "")
                    self.assertEqual(next_letters(far, "b" * many), "")

    def test_rows_of_1000_letters(self):
        for story in ([], [0], [999], [500, 3], [499, 1500]):
            text = written(LONGEST, story)
            far = Far(LONGEST, story)
            self.assertEqual(pairs(far), plain_pairs(text))
            for pattern in [LETTERS[at] for at in range(0, 26, 5)] + [text[496:500], text[1:8], text[-7:], "qqqqqqq"]:
                self.assertEqual(next_letters(far, pattern), plain_next(text, pattern))

    def test_stories_of_64_calls(self):
        for row, story in far_ones(812, 3):
            far = Far(row, story)
            found = pairs(far)
            self.assertEqual([pair for pair, _ in found], sorted({pair for pair, _ in found}))
            self.assertEqual(sum(number for _, number in found), far.length() - 1)
            for pair, number in found[::1 + len(found) // 5]:
                self.assertEqual(number, pattern_counter(row, story, pair)(far.length()))
            for pattern in (row[:1], row[-3:], far.piece(max(0, story[-1] - 2), 4), far.piece(far.length() - 7, 7)):
                expected = [letter for letter in sorted(set(row)) if occurrences(far, pattern + letter) > 0]
                self.assertEqual(next_letters(far, pattern), "".join(expected))

    def test_returned_lists_are_new(self):
        far = Far("abc", [1, 3])
        told = pairs(far)
        told.append(("zz", 1))
        del told[0]
        self.assertEqual(pairs(far), [("aa", 2), ("ab", 2), ("ba", 1), ("bc", 1), ("cc", 2)])
        self.assertIsNot(pairs(far), pairs(far))


if __name__ == "__main__":
    unittest.main()
