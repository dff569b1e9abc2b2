"""[8], [62], [63], [64]: twins, their words, and rows with three elders."""

import itertools
import time
import unittest

from ownlog.twins import are_twins, partners, root, triple, twins
from tests.helper import LETTERS, changed, chance, plain_elders, random_row, refusal, same_after, written
from tests.test_elders import THREE_ELDERS, alternating, made_rows, small_rows
from tests.test_far import LONGEST

WORDS = ["".join(word) for many in range(1, 6) for word in itertools.product("ab", repeat=many)]
WORDS += ["abc", "aac", "aaca", "abca", "acaac", "abab", "abaaba", "aaaaaaa"]


def plain_root(text):
    """The shortest text whose repetition the text is."""
    for many in range(1, len(text) + 1):
        if all(text[at] == text[at % many] for at in range(len(text))) and len(text) % many == 0:
            return text[:many]
    raise AssertionError("each text is itself once")


def begun(word, many):
    """The first letters of the word repeated for ever, letter by letter."""
    return "".join(word[at % len(word)] for at in range(many))


def broken(word, one, other, last):
    """The conditions of twins that do not hold."""
    many = len(word)
    conditions = [many > 1 and plain_root(word) == word, one < other and other <= last, (other - one) % many == 0,
                  one % many != 0, (last - 2 * one) % many == 0, word[0] == word[one % many]]
    return [at for at, holds in enumerate(conditions) if not holds]


def broken_beyond(word, one, other, last):
    """The conditions of three elders, beyond those of twins, that do not hold."""
    conditions = [one < len(word), word[:one] == word[len(word) - one:] if one < len(word) else False,
                  other - one < last - 2 * one]
    return [at for at, holds in enumerate(conditions, 6) if not holds]


def plain_twins(word, one, other, last):
    return (begun(word, other) + begun(word, last - other + 1), begun(word, one) + begun(word, last - one + 1))


def drawn_twins(seed, many, lengths, letters=3):
    """What makes twins: a primitive word, one, other, last."""
    numbers = chance(seed)
    while many > 0:
        length = numbers.choice(lengths)
        one = numbers.randint(1, numbers.choice([length, 999]))
        word = [numbers.choice(LETTERS[:letters]) for _ in range(length)]
        word[one % length] = word[0]
        other = one + length * numbers.randint(1, numbers.choice([1, 2, 1 + 998 // length]))
        last = 2 * one + length * numbers.randint(-1, numbers.choice([1, 2, 1 + 998 // length]))
        found = ("".join(word), one, other, last)
        if last <= 999 and broken(*found) == []:
            many -= 1
            yield found


def all_twins(most):
    """All twins of rows with a last place of at most so many, by all words out of two and some of three letters."""
    for many in range(2, most + 1):
        for word in itertools.product("ab" if many > 4 else "abc", repeat=many):
            for last in range(2, most + 1):
                for one, other in itertools.combinations(range(1, last + 1), 2):
                    if broken("".join(word), one, other, last) == []:
                        yield "".join(word), one, other, last


class Roots(unittest.TestCase):

    def test_small_texts(self):
        for text in WORDS + ["abcabc", "abcab", "z", "zz", "abaab" * 2]:
            self.assertEqual(same_after(self, root, text), plain_root(text))

    def test_words_repeated_and_cut(self):
        for word in ("a", "ab", "aab", "abc", "aba", "ababc", LETTERS, LONGEST[:125], LONGEST[:333]):
            for many in (1, 2, 3, 4, 8, 1000 // len(word)):
                text = (word * many)[:1000]
                for own in (text, text[:-1], text[1:], changed(text, len(text) - 1), text[:len(text) // 2]):
                    if own:
                        self.assertEqual(root(own), plain_root(own))

    def test_1000_letters(self):
        before = time.perf_counter()
        for text, many in [("a" * 1000, 1), (alternating(1000), 2), (alternating(999), 999), (LONGEST, 1000),
                           (LONGEST[:500] * 2, 500), ("a" * 999 + "b", 1000), ("a" * 499 + "b" + "a" * 500, 1000)]:
            self.assertEqual(root(text), text[:many])
        self.assertLess(time.perf_counter() - before, 5)


class Twins(unittest.TestCase):

    def check(self, word, one, other, last):
        """See that these are twins, in either order."""
        first, second = same_after(self, twins, word, one, other, last)
        self.assertEqual((first, second), plain_twins(word, one, other, last))
        self.assertNotEqual(first, second)
        self.assertEqual((len(first), len(second)), (last + 1, last + 1))
        self.assertEqual(written(first, [one]), written(second, [other]))
        self.assertIs(same_after(self, are_twins, first, one, second, other, word), True)
        self.assertIs(same_after(self, are_twins, second, other, first, one, word), True)

    def check_told(self, word, one, other, last):
        """See that the first condition that does not hold is told, or the twins."""
        wrong = broken(word, one, other, last)
        if wrong:
            self.assertEqual(refusal(twins, word, one, other, last), f"NoTwins({wrong[0]})")
            self.assertEqual(refusal(triple, word, one, other, last), f"NoTwins({wrong[0]})")
        else:
            self.check(word, one, other, last)
        return wrong

    def test_all_small_places(self):
        told = set()
        for word in WORDS:
            for one, other, last in itertools.product(range(9), range(11), range(12)):
                told.add(tuple(self.check_told(word, one, other, last)))
        # Each condition is broken alone, and all but the first with others.
        self.assertTrue({(), (0,), (1,), (2,), (3,), (4,), (5,)} <= told)
        self.assertTrue({(0, 1), (1, 2), (2, 4), (1, 3), (1, 2, 4, 5), (0, 3), (4, 5), (1, 2, 3, 4)} <= told)

    def test_drawn_twins(self):
        for found in drawn_twins(620, 60, range(2, 30)):
            self.check(*found)

    def test_long_words_and_great_places(self):
        longest = 0
        for found in drawn_twins(621, 40, [100, 300, 331, 600, 744], 26):
            self.check(*found)
            longest = max(longest, len(found[0]))
        self.assertEqual(longest, 744)
        word = "a" + "b" * 742 + "c"
        self.check(word[:127] + "a" + word[128:], 127, 871, 998)
        self.check("aab", 1, 997, 998)
        self.check("aab", 499, 502, 998)

    def test_each_condition_alone(self):
        for word, one, other, last in drawn_twins(622, 40, range(2, 60)):
            many = len(word)
            free = [place for place in range(many) if word[place] != word[0]]
            tries = [
                (word * 2, one, one + 2 * many, 2 * one + 2 * many), (word, one, one, last), (word, other, one, last),
                (word, one, other + 1, last), (word, one, other + many - 1, last), (word, many, 2 * many, 3 * many),
                (word, one, other, last + 1), (word, one, other, last - 1), (word, one, one + many, one + many - 1),
                (word, one, last + many, last), ("a", one, other, last), ("ab" * 372, one, other, last),
            ]
            tries += [(word, place, place + many, 2 * place + many) for place in free]
            for found in tries:
                if 0 <= max(found[1:]) <= 999:
                    self.check_told(*found)

    def test_other_integers(self):
        self.assertEqual(refusal(twins, "a", 0, 0, 0), "NoTwins(0)")
        self.assertEqual(refusal(twins, "abab", 1, 0, 0), "NoTwins(0)")
        self.assertEqual(refusal(twins, "ab", 0, 0, 0), "NoTwins(1)")
        self.assertEqual(refusal(twins, "ab", 999, 999, 999), "NoTwins(1)")
        self.assertEqual(refusal(twins, "ab", 0, 999, 998), "NoTwins(1)")
        self.assertEqual(refusal(twins, "ab", 0, 1, 999), "NoTwins(2)")
        self.assertEqual(refusal(twins, "ab", 0, 2, 999), "NoTwins(3)")
        self.assertEqual(refusal(twins, "ab", 1, 3, 999), "NoTwins(4)")
        self.assertEqual(refusal(twins, "ab", 1, 3, 998), "NoTwins(5)")

    def test_kinds(self):
        for told in (twins("aab", 1, 4, 5), triple("aaba", 1, 5, 10)):
            self.assertIs(type(told), tuple)
            self.assertTrue(all(type(row) is str for row in told))


class Partners(unittest.TestCase):

    def plain_partners(self, row, place):
        """The twins of a row at a place, by a look at every other place, each with its word."""
        found = []
        for other, places in plain_elders(written(row, [place])):
            if other != row:
                for its in places:
                    one, till = min(place, its), max(place, its)
                    pair = (row, other) if one == place else (other, row)
                    words = [pair[0][:many] for many in range(2, till - one + 1)]
                    last = len(row) - 1
                    words = [word for word in words if (till - one) % len(word) == 0
                             and broken(word, one, till, last) == [] and plain_twins(word, one, till, last) == pair]
                    self.assertEqual(len(words), 1)
                    found.append((other, its, words[0]))
        return sorted(found, key=lambda item: item[1])

    def check(self, row, place):
        """See the partners of a row, and that the row is one of theirs; return how many there are."""
        found = same_after(self, partners, row, place)
        self.assertEqual(found, self.plain_partners(row, place))
        self.assertLessEqual(len(found), 2)
        for other, its, word in found:
            self.assertIn((row, place, word), partners(other, its))
            self.assertIs(are_twins(row, place, other, its, word), True)
            self.assertIs(are_twins(other, its, row, place, word), True)
        return len(found)

    def test_all_small_rows(self):
        # The twins of all words, and what partners says of all rows, are the same.
        expected = {}
        for word, one, other, last in all_twins(8):
            first, second = plain_twins(word, one, other, last)
            expected.setdefault((first, one), []).append((second, other, word))
            expected.setdefault((second, other), []).append((first, one, word))
        self.assertGreater(len(expected), 50)
        told = 0
        for row in small_rows():
            for place in range(len(row)):
                found = expected.get((row, place), [])
                self.assertEqual(partners(row, place), sorted(found, key=lambda item: item[1]))
                told += len(found)
        self.assertGreater(told, 50)

    def test_twins(self):
        for word, one, other, last in drawn_twins(630, 40, range(2, 20)):
            first, second = twins(word, one, other, last)
            self.assertIn((second, other, word), partners(first, one))
            self.assertIn((first, one, word), partners(second, other))
            self.assertGreater(self.check(first, one), 0)
            self.assertGreater(self.check(second, other), 0)
            self.check(first, other)
            self.check(second, one)

    def test_two_of_three_elders(self):
        for row in THREE_ELDERS:
            for older, (place,) in plain_elders(row):
                self.assertEqual(self.check(older, place), 2)

    def test_drawn_rows(self):
        numbers = chance(631)
        for row in itertools.chain(made_rows(632, 60), [random_row(numbers, 20, 2) for _ in range(100)]):
            for place in range(len(row)):
                self.check(row, place)

    def test_rows_of_501_to_1000_letters(self):
        numbers = chance(633)
        before = time.perf_counter()
        for row in (LONGEST, "a" * 1000, alternating(1000), alternating(999), LONGEST[:501]):
            for place in (0, 1, len(row) // 2, len(row) - 1):
                self.assertEqual(partners(row, place), [])
        many = 0
        for word, one, other, last in itertools.chain(drawn_twins(634, 200, [2, 3, 5, 60, 200]),
                                                      [("aab", 1, 4, 998), ("aab", 499, 502, 998)]):
            if last >= 500 and many < 40:
                many += 1
                first, second = twins(word, one, other, last)
                self.assertIn((second, other, word), partners(first, one))
                self.assertIn((first, one, word), partners(second, other))
                changed_row = changed(first, numbers.randrange(len(first)))
                self.assertNotIn(second, [found[0] for found in partners(changed_row, one)])
        self.assertGreater(many, 5)
        self.assertLess(time.perf_counter() - before, 20)

    def test_long_rows_with_a_look_at_every_place(self):
        for word, one, other, last in [("aab", 250, 253, 500), ("abaab", 2, 7, 994), ("aaba", 1, 5, 602)]:
            self.assertEqual(broken(word, one, other, last), [])
            first, second = twins(word, one, other, last)
            self.assertGreater(self.check(first, one) + self.check(second, other), 1)

    def test_kinds_and_new_lists(self):
        told = partners("aabaaa", 1)
        self.assertIs(type(told[0]), tuple)
        told.append(7)
        self.assertEqual(partners("aabaaa", 1), [("aaabaa", 4, "aab")])
        partners("aabaaa", 0).append(7)
        self.assertEqual(partners("aabaaa", 0), [])


class AreTwins(unittest.TestCase):

    def test_each_thing_changed(self):
        for word, one, other, last in itertools.chain(drawn_twins(640, 25, range(2, 12)), [("aab", 1, 4, 5)]):
            first, second = twins(word, one, other, last)
            right = (first, one, second, other, word)
            wrong = [(first, new, second, other, word) for new in range(last + 1) if new != one]
            wrong += [(first, one, second, new, word) for new in range(last + 1) if new != other]
            wrong += [(changed(first, at), one, second, other, word) for at in range(last + 1)]
            wrong += [(first, one, changed(second, at), other, word) for at in range(last + 1)]
            wrong += [(first, one, second, other, changed(word, at)) for at in range(len(word))]
            wrong += [(first, one, second, other, new) for new in (word * 2, word[:-1], word[1:], word + word[0],
                                                                  word[1:] + word[0], "a", first, "q" * 1000) if new]
            wrong += [(second, one, first, other, word), (first, other, second, one, word),
                      (first, one, first, other, word), (second, one, second, other, word),
                      (first, one, second, one, word), (second, other, first, other, word)]
            for row, place, new, its, own in wrong:
                if (row, place, new, its, own) != right:
                    self.assertIs(are_twins(row, place, new, its, own), False)
                    self.assertIs(are_twins(new, its, row, place, own), False)
            self.assertIs(are_twins(*right), True)

    def test_conditions_broken_alone(self):
        # The rows are those of the word, but one condition does not hold.
        told = set()
        for word in WORDS:
            for one, other, last in itertools.product(range(8), range(10), range(2, 10)):
                wrong = broken(word, one, other, last)
                # Places in the other order may be right, if the first and the second row are exchanged, too.
                if len(wrong) == 1 and one <= other <= last:
                    told.add(wrong[0])
                    first, second = plain_twins(word, one, other, last)
                    self.assertIs(are_twins(first, one, second, other, word), False)
                    self.assertIs(are_twins(second, other, first, one, word), False)
        self.assertEqual(told, {0, 1, 2, 3, 4, 5})

    def test_equal_places_and_equal_rows(self):
        for row in ("ab", "aab", "aabaaa", "aaabaa", "a" * 1000, LONGEST):
            for place in (0, 1, len(row) - 1):
                for word in ("a", "ab", "aab", row):
                    self.assertIs(are_twins(row, place, row, place, word), False)
                    self.assertIs(are_twins(row, 0, row, place, word), False)
                    self.assertIs(are_twins(row, place, row[::-1], place, word), False)

    def test_all_small_rows(self):
        right = set()
        for word, one, other, last in all_twins(5):
            first, second = plain_twins(word, one, other, last)
            right |= {(first, one, second, other, word), (second, other, first, one, word)}
        rows = ["".join(row) for many in range(2, 7) for row in itertools.product("ab", repeat=many)]
        self.assertGreater(len(right), 0)
        for row in rows:
            others = [other for other in rows if len(other) == len(row)
                      and (len(row) < 6 or other.count("b") == row.count("b"))]
            for other in others:
                for place, its in itertools.product(range(len(row)), repeat=2):
                    for word in ("ab", "aab", "bba", "abb", "aba", "aaab"):
                        self.assertIs(are_twins(row, place, other, its, word), (row, place, other, its, word) in right)


class Triples(unittest.TestCase):

    def check(self, word, one, other, last):
        """See that these are three elders of one row."""
        rows = same_after(self, triple, word, one, other, last)
        third = begun(word, one) + begun(word, other) + begun(word, last - one - other + 1)
        self.assertEqual(rows, (*plain_twins(word, one, other, last), third))
        self.assertEqual(len(set(rows)), 3)
        places = (one, other, last - one)
        self.assertEqual(len({written(row, [place]) for row, place in zip(rows, places)}), 1)
        self.assertEqual(plain_elders(written(rows[0], [one])),
                         [(row, [place]) for row, place in zip(rows, places)])

    def check_told(self, word, one, other, last):
        wrong = broken(word, one, other, last) + broken_beyond(word, one, other, last)
        if wrong:
            self.assertEqual(refusal(triple, word, one, other, last), f"NoTwins({wrong[0]})")
        else:
            self.check(word, one, other, last)
        return tuple(wrong)

    def test_all_small_places(self):
        told = set()
        for word in WORDS:
            for one, other, last in itertools.product(range(8), range(14), range(20)):
                told.add(self.check_told(word, one, other, last))
        self.assertTrue({(), (6, 7), (7,), (8,), (7, 8), (6, 7, 8)} <= told)
        self.assertTrue({(0,), (1, 8), (2,), (4,), (5, 8)} & told)

    def test_each_condition_broken_alone(self):
        # What lies beyond the word does not count for 7 where 6 does not hold.
        self.assertEqual(refusal(triple, "aaba", 5, 9, 18), "NoTwins(6)")
        self.assertEqual(refusal(triple, "aab", 1, 4, 8), "NoTwins(7)")
        self.assertEqual(refusal(triple, "aaba", 1, 5, 6), "NoTwins(8)")
        for wrong, word, one, other, last in [(0, "aabaaaba", 1, 9, 18), (1, "aaba", 1, 1, 10), (2, "aaba", 1, 6, 10),
                                              (3, "aaba", 4, 8, 16), (4, "aaba", 1, 5, 11), (5, "abaa", 1, 5, 10)]:
            self.assertEqual(broken(word, one, other, last), [wrong])
            self.assertEqual(refusal(triple, word, one, other, last), f"NoTwins({wrong})")

    def test_long_words_and_great_places(self):
        for middle in (2, 40, 240):
            for many in (1, 3, 30):
                # The word begins and ends with the same letters, and has its first letter again after them.
                border = (LETTERS * 2)[:many]
                word = border + "a" + "b" * middle + border
                other = many + len(word)
                for last in (2 * many + 2 * len(word), 2 * many + 3 * len(word)):
                    if last <= 999:
                        self.assertEqual(broken(word, many, other, last) + broken_beyond(word, many, other, last), [])
                        self.check(word, many, other, last)
                self.assertEqual(refusal(triple, word, many, other, 2 * many + len(word)), "NoTwins(8)")
                self.assertEqual(refusal(triple, word[:-1] + "z", many, other, 2 * many + 2 * len(word)), "NoTwins(7)")

    def test_ends_of_the_word_that_overlap(self):
        # The first letters of the word that are its last ones, too, are more than half of it.
        for word, one in [("aabaaba", 4), ("aabaabaaba", 7), ("abaabaab", 5)]:
            many = len(word)
            self.assertGreater(2 * one, many)
            for times in (1, 2, 3):
                for more in (-1, 0, 1, 2):
                    last = 2 * one + many * (times + more)
                    told = self.check_told(word, one, one + many * times, last)
                    self.assertEqual(told, () if more > 0 else (8,) if more == 0 else (1, 8))

    def test_a_row_with_three_elders_is_a_triple(self):
        found = set()
        for word in WORDS:
            for one, other, last in itertools.product(range(1, 8), range(14), range(20)):
                if broken(word, one, other, last) + broken_beyond(word, one, other, last) == []:
                    found.add(written(triple(word, one, other, last)[0], [one]))
        self.assertTrue(set(THREE_ELDERS) <= found)


if __name__ == "__main__":
    unittest.main()
