"""[8], [60], [61]: joints, and the classes of places whose calls make the same row."""

import itertools
import time
import unittest

from ownlog.joints import classes, joint_step, joints
from tests.helper import LETTERS, changed, chance, plain_elders, same_after, written
from tests.test_elders import THREE_ELDERS, alternating, made_rows, small_rows
from tests.test_far import LONGEST


def plain_step(row):
    """The least distance that divides the last place and at which all letters are equal, or None."""
    last = len(row) - 1
    for step in range(1, last + 1):
        if last % step == 0 and all(row[place] == row[place + step] for place in range(len(row) - step)):
            return step
    return None


def plain_classes(row):
    """The places by the rows that their calls make."""
    found = {}
    for place in range(len(row)):
        found.setdefault(written(row, [place]), []).append(place)
    return sorted(found.values())


def repeated_rows(most):
    """Words repeated and one letter more, and the same with one letter changed."""
    numbers = chance(600)
    for word in ("a", "ab", "aab", "aba", "abc", "abab", "abca", "abcde", LETTERS):
        for many in (1, 2, 3, 4, 6, 9, most // len(word) - 1, (most - 1) // len(word)):
            row = word * many + word[0]
            if 2 <= len(row) <= most:
                yield row
                for place in sorted({0, len(row) - 1, numbers.randrange(len(row)), numbers.randrange(len(row))}):
                    yield changed(row, place)
                yield row[:-1] + "z"
                yield row + word[1:]


class Joints(unittest.TestCase):

    def check(self, row):
        step = plain_step(row)
        self.assertEqual(same_after(self, joint_step, row), step)
        expected = [] if step is None else [place for place in range(len(row)) if place % step == 0]
        self.assertEqual(same_after(self, joints, row), expected)
        found = same_after(self, classes, row)
        self.assertEqual(found, plain_classes(row))
        self.assertTrue(expected == [] or found[0] == expected)

    def test_small_rows(self):
        for row in small_rows():
            self.check(row)

    def test_words_repeated(self):
        for row in repeated_rows(120):
            self.check(row)

    def test_long_rows(self):
        for row in itertools.islice(repeated_rows(1000), 0, None, 5):
            self.check(row)
        for row in ["a" * 1000, "a" * 999, alternating(999), alternating(1000), LONGEST, "a" * 999 + "b"]:
            self.check(row)

    def test_rows_made_by_calls(self):
        for row in itertools.chain(made_rows(601, 100), THREE_ELDERS):
            self.check(row)

    def test_rows_whose_ends_differ(self):
        for row in ("ab", "ba", "aab", "abab", "a" * 999 + "b", LETTERS):
            self.assertIsNone(joint_step(row))
            self.assertEqual(joints(row), [])
            self.assertEqual(classes(row), [[place] for place in range(len(row))])

    def test_the_last_place_is_a_step_where_no_lesser_one_is(self):
        for row in ("aa", "aba", "abca", "abaca", "aabaa", "abbba", LETTERS + "a"):
            step = plain_step(row)
            self.assertEqual(joint_step(row), step)
            self.assertEqual(joints(row)[0], 0)
            self.assertEqual(joints(row)[-1], len(row) - 1)
        self.assertEqual([joint_step("aba"), joint_step("aabaa"), joint_step(LETTERS + "a")], [2, 4, 26])

    def test_a_distance_that_does_not_divide_the_last_place_is_no_step(self):
        # All letters are equal at the distances 2 and 3, which do not divide 5 and 10.
        self.assertEqual([joint_step("abcabcabcab"), joint_step("abaaba"), joint_step("aabaabaabaa")], [None, 5, 10])

    def test_all_places_of_an_elder_with_several_are_its_joints(self):
        for row in small_rows():
            for older, places in plain_elders(row):
                if len(places) > 1:
                    self.assertEqual(joints(older), places)

    def test_time(self):
        before = time.perf_counter()
        for row in ("a" * 1000, "a" * 998 + "ba", alternating(999), LONGEST):
            joint_step(row)
            joints(row)
            classes(row)
        self.assertLess(time.perf_counter() - before, 5)

    def test_returned_lists_that_are_changed_are_returned_anew(self):
        for row in ("ababa", "aaaa", "abc", "aba"):
            for query in (joints, classes):
                told = query(row)
                expected = [list(own) if isinstance(own, list) else own for own in told]
                for own in told:
                    if isinstance(own, list):
                        own.append(7)
                told.append(7)
                self.assertEqual(query(row), expected)
        told = classes("ababa")
        self.assertEqual(len({id(own) for own in told}), 3)


if __name__ == "__main__":
    unittest.main()
