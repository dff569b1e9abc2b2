"""[6], [8], [50], [51]: elders, and the lists that show that there is none."""

import itertools
import time
import unittest

from ownlog.elders import are_obstacles, elder, elders, obstacles
from ownlog.maps import shown
from tests.helper import (LETTERS, changed, chance, other_things, plain_elders, random_row, random_story, refusal,
                          same_after, written)
from tests.test_far import LONGEST

TWINS = ("aabaaa", 1, "aaabaa", 4)
# Each is made by calls of three rows.
THREE_ELDERS = [written("aabaaaabaaa", [1]), written("abaabababaababa", [2]), written("bbabbbbbabbbb", [1])]


def small_rows():
    """All rows of up to nine letters out of two, six out of three, five out of four."""
    for many in range(2, 10):
        for letters, most in (("ab", 9), ("abc", 6), ("abcd", 5)):
            if many <= most:
                widest = letters
        for row in itertools.product(widest, repeat=many):
            yield "".join(row)


def alternating(many, letters="ab"):
    return (letters * many)[:many]


def special_rows():
    """Rows of one letter and of letters by turns, twins, and rows with several elders."""
    for many in (2, 3, 4, 5, 7, 9, 16, 17, 33, 99, 129, 999, 1000):
        yield "a" * many
        yield alternating(many)
        yield alternating(many, "abc")
    yield from THREE_ELDERS
    yield written(*(TWINS[0], [TWINS[1]]))
    yield LETTERS + LETTERS[::-1][1:]
    yield LONGEST
    yield LONGEST[:999]


def made_rows(seed, many, most=9, letters=3, calls=3):
    """Rows made by up to so many calls, and the same with one letter changed."""
    numbers = chance(seed)
    for _ in range(many):
        start = random_row(numbers, most, letters)
        row = written(start, random_story(numbers, start, numbers.randint(0, calls)))
        yield row
        yield changed(row, numbers.randrange(len(row)), numbers.choice("abcz"))


def late_changes(most):
    """Rows made by a call, with one late letter changed."""
    for many in (3, 5, 51, 100, (most + 1) // 2):
        for start in ("a" * many, LONGEST[:many], alternating(many)):
            for place in (0, 1, many // 2, many - 1):
                row = written(start, [place])
                for back in (1, 2, 3):
                    yield changed(row, len(row) - back)


class Elders(unittest.TestCase):

    def check(self, row, expected):
        """See that these are the elders, and what elder says of them."""
        self.assertEqual(same_after(self, elders, row), expected)
        if len(expected) == 1:
            self.assertEqual(same_after(self, elder, row), expected[0])
        else:
            told = f"Several({len(expected)})" if expected else "NoElder()"
            self.assertEqual(refusal(elder, row), told)

    def test_all_small_rows(self):
        made = {}
        for row in small_rows():
            for place in range(len(row)):
                made.setdefault(written(row, [place]), {}).setdefault(row, []).append(place)
        most = 0
        for row, found in made.items():
            self.check(row, sorted(found.items(), key=lambda item: item[1]))
            most = max(most, len(found))
        self.assertEqual(most, 2)
        for row in small_rows():
            if row not in made:
                self.check(row, [])

    def test_special_rows(self):
        for row in special_rows():
            self.check(row, plain_elders(row))

    def test_made_rows_and_the_same_with_one_letter_changed(self):
        for row in made_rows(501, 300):
            self.check(row, plain_elders(row))

    def test_long_rows(self):
        for row in itertools.chain(made_rows(502, 5, 130), made_rows(503, 5, 125, 26), late_changes(299)):
            self.check(row, plain_elders(row))

    def test_each_call_is_found_again(self):
        numbers = chance(504)
        for _ in range(60):
            row = random_row(numbers, 500, numbers.choice([1, 2, 26]))
            place = numbers.randrange(len(row))
            found = dict(elders(written(row, [place])))
            self.assertIn(place, found[row])

    def test_even_lengths(self):
        for many in (2, 4, 6, 10, 998, 1000):
            for row in ("a" * many, alternating(many), (LETTERS * 40)[:many]):
                self.check(row, [])

    def test_several_elders(self):
        for row in THREE_ELDERS:
            self.assertEqual(refusal(elder, row), "Several(3)")
            self.assertEqual(len({older for older, _ in elders(row)}), 3)
        first, one, second, other = TWINS
        self.check(written(first, [one]), [(first, [one]), (second, [other])])
        self.assertEqual(refusal(elder, written(first, [one])), "Several(2)")

    def test_one_elder_with_several_places(self):
        self.check("aaaaa", [("aaa", [0, 1, 2])])
        self.check("ababababa", [("ababa", [0, 2, 4])])
        self.assertEqual(elder("a" * 999), ("a" * 500, list(range(500))))

    def test_what_is_promised_of_elders(self):
        for row in itertools.chain(small_rows(), made_rows(505, 300)):
            found = elders(row)
            self.assertLessEqual(len(found), 3)
            if len(found) > 1 or [item for item in found if len(item[1]) > 1]:
                odd = [letter for letter in LETTERS if row.count(letter) % 2 == 1]
                self.assertEqual([row[0], row[-1]], odd * 2)
                self.assertTrue(len(found) == 1 or [len(places) for _, places in found] == [1] * len(found))
        for row in THREE_ELDERS:
            places = [place for _, (place,) in elders(row)]
            self.assertEqual(places[0] + places[2], len(row) // 2)

    def test_time(self):
        before = time.perf_counter()
        for row in ("a" * 999, "a" * 998 + "b", alternating(999), LONGEST[:999], written("a" * 499 + "b", [499])):
            elders(row)
        self.assertLess(time.perf_counter() - before, 5)

    def test_kinds_and_new_lists(self):
        told = elders("aaaaa")
        self.assertIsInstance(told[0], tuple)
        self.assertIsInstance(elder("aaaaa"), tuple)
        told[0][1].append(9)
        told.append(("b", []))
        elder("aaaaa")[1].clear()
        self.assertEqual([elders("aaaaa"), elder("aaaaa")], [[("aaa", [0, 1, 2])], ("aaa", [0, 1, 2])])


def pairs_at(row, place):
    """All obstacles of a row at a place, in ascending order, by a look at all pairs of places."""
    last = len(row) // 2
    places = range(len(row))
    origins = [shown(last, place, new) for new in places]
    return [(place, one, other) for one in places for other in range(one + 1, len(row))
            if origins[one] == origins[other] and row[one] != row[other]]


def plain_obstacles(row):
    """The least obstacles, or None, by a look at all pairs of places."""
    if len(row) % 2 == 0:
        return []
    found = [pairs_at(row, place)[:1] for place in range(len(row) // 2 + 1)]
    return None if [] in found else [own for own, in found]


def spoiled(found):
    """Lists that differ from a right one at one place."""
    for at, (place, one, other) in enumerate(found):
        news = [(place, other, one), (place, one, one), (place, other, other), [place, one, other], (place, one),
                (place, one, other, 0), (one, other), (), None, (str(place), one, other), (place, None, other),
                (place, one, "1"), (place, (one,), other), (place - 1, one, other), (place + 1, one, other),
                (-1, one, other), (place, one, 10 ** 99), (place, -10 ** 99, other), (place, True, True),
                (place, False, True), (True, True, True), (place, one - 10 ** 5, other)]
        news += [tuple(bool(part) if part == own else part for part in (place, one, other))
                 for own in {0, 1} & {place, one, other}]
        for new in news:
            yield found[:at] + [new] + found[at + 1:]
        for new in other_things():
            yield found[:at] + [new] + found[at + 1:]
        yield found[:at] + found[at + 1:]
        yield found[:at] + [found[at]] + found[at:]
        for before in range(at):
            yield found[:before] + [found[at]] + found[before + 1:at] + [found[before]] + found[at + 1:]
    yield found + [(len(found), 0, 1)]
    yield found + [None]
    yield [found]
    yield tuple(found)
    yield {at: item for at, item in enumerate(found)}


class Obstacles(unittest.TestCase):

    def check_least(self, row):
        """See that the least obstacles are returned, and that they show what they must."""
        expected = plain_obstacles(row)
        found = same_after(self, obstacles, row)
        self.assertEqual(found, expected)
        self.assertEqual(found is None, plain_elders(row) != [])
        if found is not None:
            self.assertTrue(all(type(item) is tuple for item in found))
            self.assertIs(same_after(self, are_obstacles, row, found), True)

    def test_small_rows(self):
        for row in small_rows():
            self.check_least(row)

    def test_made_rows_and_the_same_with_one_letter_changed(self):
        for row in made_rows(510, 60, 6):
            self.check_least(row)
        for row in THREE_ELDERS:
            self.check_least(row)
            for place in range(len(row)):
                self.check_least(changed(row, place))

    def check_long(self, row):
        """See the least obstacles of a long row by a look at the pairs that show each place."""
        last = len(row) // 2
        expected = []
        for place in range(last + 1):
            pairs = {}
            for new in range(len(row)):
                pairs.setdefault(shown(last, place, new), []).append(new)
            unlike = [(place, *pair) for pair in pairs.values() if len({row[new] for new in pair}) > 1]
            if not unlike:
                expected = None
                break
            expected.append(min(unlike))
        self.assertEqual(same_after(self, obstacles, row), expected)
        if expected is not None:
            self.assertIs(same_after(self, are_obstacles, row, expected), True)

    def test_rows_of_up_to_299_letters(self):
        for row in late_changes(299):
            self.check_long(row)
        for row in special_rows():
            if len(row) < 300 and len(row) % 2 == 1:
                self.check_long(row)

    def test_even_lengths(self):
        for row in ("ab", "aa", "abca", "a" * 1000, LONGEST):
            self.assertEqual(obstacles(row), [])
            self.assertIs(are_obstacles(row, []), True)
            for thing in other_things() + [(), [(0, 0, 1)], "", [[]], [()], 0, {}]:
                self.assertIs(are_obstacles(row, thing), False)

    def test_rows_of_1000_letters(self):
        before = time.perf_counter()
        for row in ("a" * 997 + "ba", LONGEST[:999], alternating(998) + "c", "a" * 498 + "b" + "a" * 497 + "bbb"):
            found = obstacles(row)
            self.assertEqual(len(found), 500)
            self.assertIs(are_obstacles(row, found), True)
            self.assertEqual([pairs[0] for pairs in found], list(range(500)))
        self.assertLess(time.perf_counter() - before, 5)
        self.assertIsNone(obstacles("a" * 999))

    def test_other_right_lists(self):
        numbers = chance(511)
        for row in ("abc", "aabba", "abcabba", "abbbbbabb", "abcdefghi"):
            choices = [pairs_at(row, place) for place in range(len(row) // 2 + 1)]
            for _ in range(50):
                self.assertIs(same_after(self, are_obstacles, row, [numbers.choice(own) for own in choices]), True)
            self.assertIs(are_obstacles(row, [own[-1] for own in choices]), True)

    def test_right_items_are_just_the_obstacles(self):
        for row in ("abc", "aabba", "abcabba"):
            least = obstacles(row)
            for at in range(len(least)):
                right = pairs_at(row, at)
                for item in itertools.product(range(-1, len(least) + 1), range(-2, len(row) + 2), repeat=1):
                    for other in range(-2, len(row) + 2):
                        thing = least[:at] + [(*item, other)] + least[at + 1:]
                        self.assertIs(are_obstacles(row, thing), (*item, other) in right)

    def test_spoiled_lists(self):
        for row in ("abc", "cab", "aabba", "abcabba", "abbbbbabb"):
            right = obstacles(row)
            last = pairs_at(row, len(right) - 1)[-1]
            for start in (right, right[:-1] + [last]):
                for thing in spoiled(start):
                    self.assertIs(are_obstacles(row, thing), False)
                self.assertIs(are_obstacles(row, start), True)

    def test_what_is_passed_stays(self):
        right = obstacles("aabba")
        for thing in (right, right[:-1], right + [(3, 0, 1)], [[0, 1, 2], [1, 0, 1], [2, 0, 2]], [(True, 0, 1)] * 3):
            same_after(self, are_obstacles, "aabba", thing)

    def test_rows_with_elders_have_no_such_list(self):
        for row in ("aaa", "aab", "abb", "aabcc", "aabaabccc"):
            self.assertIsNone(obstacles(row))
            many = len(row) // 2 + 1
            for start in itertools.product(*[pairs_at(row, place) or [(place, 0, 1)] for place in range(many)]):
                self.assertIs(are_obstacles(row, list(start)), False)
            self.assertIs(are_obstacles(row, []), False)

    def test_every_value(self):
        for row in ("abc", "aab", "aabba", LONGEST[:999]):
            for thing in other_things() + [[], 0, 1, -1, "", "abc", [0, 1, 2], ((0, 1, 2), (1, 0, 1)), [[0, 1, 2]]]:
                self.assertIs(are_obstacles(row, thing), False)
        long = [(0, 0, 1)] * 9000
        self.assertIs(are_obstacles("abc", long), False)

    def test_returned_lists_are_new(self):
        for row in ("abc", "ab"):
            told = obstacles(row)
            many = len(told)
            told.append(7)
            self.assertEqual(len(obstacles(row)), many)


if __name__ == "__main__":
    unittest.main()
