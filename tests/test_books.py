"""[3], [4], [100]: Books."""

import itertools
import unittest

from ownlog.books import Book
from ownlog.far import Far
from tests.helper import LETTERS, chance, other_things, plain_elders, random_row, random_story, refusal, written
from tests.test_elders import THREE_ELDERS, made_rows, special_rows
from tests.test_far import LONGEST, AlwaysEqual


def plain_call(row, place):
    """What a call does: the new row and the called letter, or the error."""
    if place not in range(len(row)):
        return f"NoPlace({place})"
    if 2 * len(row) - 1 > 1000:
        return "TooLong(1000)"
    return written(row, [place]), row[place]


def plain_follow(row, calls):
    """What calls do: the new row and the called letters, or the error."""
    last = len(row) - 1
    for at, place in enumerate(calls):
        if place not in range(last + 1):
            return f"NoCall({at})"
        last = 2 * last
    if last + 1 > 1000:
        return "TooLong(1000)"
    letters = []
    for place in calls:
        letters.append(row[place])
        row = written(row, [place])
    return row, "".join(letters)


def plain_back(row):
    """What going back does: the elder and its places, or the error."""
    found = plain_elders(row)
    if len(found) != 1:
        return f"Several({len(found)})" if found else "NoElder()"
    return found[0]


def plain_unwind(row):
    """What going back as often as can be does: the row, and how often."""
    many = 0
    found = plain_back(row)
    while not isinstance(found, str):
        row = found[0]
        many += 1
        found = plain_back(row)
    return row, many


class Books(unittest.TestCase):

    def see_deed(self, book, deed, expected):
        """See that a deed returns and does what is expected, or raises it and does nothing."""
        before = book.row()
        if isinstance(expected, str):
            self.assertEqual(refusal(deed), expected)
            self.assertEqual([book.row(), len(book)], [before, len(before)])
        else:
            self.assertEqual(deed(), expected[1])
            self.assertEqual([book.row(), len(book)], [expected[0], len(expected[0])])
        self.assertEqual(book, Book(book.row()))

    def test_what_is_no_row(self):
        for number, thing in enumerate(other_things() + [0, "", "a", "A", "aB", "ab ", "a b", "ab\n", "a" * 1001]):
            self.assertEqual(refusal(Book, thing), "Wrong(0)", f"thing {number}")

    def test_rows_and_lengths(self):
        for row in ("ab", "zz", LETTERS, "a" * 999, LONGEST):
            self.assertEqual([Book(row).row(), len(Book(row))], [row, len(row)])

    def test_books_are_equal_by_their_rows(self):
        self.assertTrue(Book("abc") == Book("abc"))
        self.assertFalse(Book("abc") != Book("abc"))
        self.assertTrue(Book("abc") != Book("abd"))
        self.assertFalse(Book("abc") == Book("cba"))
        self.assertTrue(Book("aabcc") != Book("abc"))
        book = Book("abc")
        self.assertEqual(book, book)
        book.call(1)
        self.assertEqual([book == Book("aabcc"), book == Book("abc")], [True, False])

    def test_a_book_is_equal_to_nothing_else(self):
        for number, thing in enumerate(other_things() + ["abc", ["abc"], ("abc",), Far("abc", []), AlwaysEqual(), 3]):
            self.assertIs(Book("abc") == thing, False, f"thing {number}")
            self.assertIs(Book("abc") != thing, True, f"thing {number}")
        self.assertFalse(Far("abc", []) == Book("abc"))

    def test_calls(self):
        for row in ("ab", "aa", "abc", LETTERS, LONGEST[:500], LONGEST[:501], LONGEST):
            for place in [0, 1, len(row) // 2, len(row) - 1, len(row), len(row) + 1, -1, 10 ** 99, -10 ** 99]:
                book = Book(row)
                self.see_deed(book, lambda: book.call(place), plain_call(row, place))
        self.assertEqual(refusal(Book(LONGEST).call, 1000), "NoPlace(1000)")
        self.assertEqual(refusal(Book(LONGEST).call, 999), "TooLong(1000)")
        self.assertEqual(len(Book("a" * 500 + "b").row()), 501)

    def test_calls_of_what_is_no_integer(self):
        for row in ("abc", LONGEST):
            book = Book(row)
            for number, thing in enumerate(other_things() + ["", "0", "a", "12", [], [0], (0,), (1, 2)]):
                self.assertEqual(refusal(book.call, thing), "Wrong(0)", f"thing {number}")
                self.assertEqual(book.row(), row)

    def test_follow(self):
        numbers = chance(1000)
        for _ in range(200):
            row = random_row(numbers, 20, 4)
            calls = random_story(numbers, row, numbers.randint(0, 8))
            if numbers.random() < 0.4 and calls:
                calls[numbers.randrange(len(calls))] += numbers.choice([-1, 1, -500, 500, 10 ** 90])
            book = Book(row)
            before = list(calls)
            self.see_deed(book, lambda: book.follow(calls), plain_follow(row, calls))
            self.assertEqual(calls, before)

    def test_follow_with_many_calls(self):
        for row, calls in [("ab", [0] * 64), ("ab", [0] * 63 + [-1]), ("ab", [2 ** at for at in range(64)]),
                           ("ab", [2 ** at for at in range(63)] + [2 ** 63 + 1]), ("ab", [0] * 9), ("ab", [0] * 10),
                           ("abc", [0] * 8), ("abc", [0] * 9), (LONGEST, []), (LONGEST, [0]), (LONGEST, [1000]),
                           (LONGEST[:500], [499]), (LONGEST[:501], [500]), (LONGEST[:501], [501])]:
            book = Book(row)
            self.see_deed(book, lambda: book.follow(calls), plain_follow(row, calls))

    def test_follow_of_what_is_no_list_of_integers(self):
        things = other_things() + ["", "0", "00", "a", 0, 1, (0,), (0, 0), {0: 0}, range(2)]
        things += [[0] * 65, [0] * 64 + [-1], [-1] * 65, [True], [0, False], [0, None], [-1, "0"], [5000, [0]]]
        for row in ("abc", LONGEST):
            book = Book(row)
            for number, thing in enumerate(things):
                self.assertEqual(refusal(book.follow, thing), "Wrong(0)", f"thing {number}")
                self.assertEqual(book.row(), row)

    def test_lists_may_be_changed_later(self):
        book = Book("abc")
        calls = [1, 3]
        self.assertEqual(book.follow(calls), "bc")
        self.assertEqual(calls, [1, 3])
        calls.append(9)
        self.assertEqual(book.row(), "aabaabccc")
        places = book.back()
        self.assertEqual(places, [3])
        places.append(5)
        other = Book("aabaabccc")
        self.assertEqual(other.back(), [3])
        self.assertEqual(book, other)

    def test_back(self):
        for row in itertools.chain(made_rows(1001, 120), special_rows(), ["aaa", "ababa", "ababababa"]):
            book = Book(row)
            self.see_deed(book, book.back, plain_back(row))
        for row in THREE_ELDERS:
            self.assertEqual(refusal(Book(row).back), "Several(3)")

    def test_unwind(self):
        for row in itertools.chain(made_rows(1002, 120, 9, 3, 5), special_rows(), ["ab", "aa", "aaa"]):
            book = Book(row)
            expected = plain_unwind(row)
            self.see_deed(book, book.unwind, expected)
            self.assertEqual([book.unwind(), book.row()], [0, expected[0]])
            self.assertIn(refusal(book.back), ("NoElder()", f"Several({len(plain_elders(book.row()))})"))

    def test_unwind_stops_before_several_elders(self):
        for row in ("aabaaaabaaa", "aabaaa"):
            twin = written(row, [1])
            book = Book(twin)
            self.assertEqual([book.unwind(), book.row()], [0, twin])
            book.call(0)
            book.call(3)
            self.assertEqual(book.unwind(), plain_unwind(written(twin, [0, 3]))[1])

    def test_copies_go_on_independently(self):
        book = Book("abc")
        other = book.copied()
        self.assertEqual([book == other, book is other], [True, False])
        book.call(1)
        self.assertEqual([book.row(), other.row()], ["aabcc", "abc"])
        other.follow([2, 0])
        third = other.copied()
        other.unwind()
        self.assertEqual([book.row(), other.row(), third.row()], ["aabcc", "abc", written("abc", [2, 0])])
        self.assertEqual([refusal(third.call, 99), third.copied()], ["NoPlace(99)", third])

    def test_deeds_of_every_kind_in_any_order(self):
        numbers = chance(1003)
        seen = []
        for _ in range(40):
            row = random_row(numbers, 12, 3)
            kept = [(Book(row), row)]
            for _ in range(30):
                at = numbers.randrange(len(kept))
                book, row = kept[at]
                deed, expected = self.drawn_deed(numbers, book, row)
                self.see_deed(book, deed, expected)
                seen.append(expected if isinstance(expected, str) else "")
                kept[at] = (book, row if isinstance(expected, str) else expected[0])
                if numbers.random() < 0.1:
                    kept.append((book.copied(), kept[at][1]))
                # A deed changes only its own Book.
                self.assertEqual([own.row() for own, _ in kept], [own for _, own in kept])
                self.assertEqual(kept[0][0] == book, kept[0][1] == kept[at][1])
        for error in ("", "NoElder()", "TooLong(1000)", "Wrong(0)", "NoCall(0)"):
            self.assertIn(error, seen)

    def drawn_deed(self, numbers, book, row):
        """A deed of a Book, and what is expected of it."""
        kind = numbers.randrange(7)
        if kind <= 1:
            place = numbers.choice([-1, len(row), *range(len(row))])
            return lambda: book.call(place), plain_call(row, place)
        if kind == 2:
            calls = random_story(numbers, row, numbers.randint(0, 4))
            if numbers.random() < 0.2:
                calls.insert(0, len(row))
            return lambda: book.follow(calls), plain_follow(row, calls)
        if kind == 3:
            return book.back, plain_back(row)
        if kind == 4:
            return book.unwind, plain_unwind(row)
        if kind == 5:
            return lambda: book.call(None), "Wrong(0)"
        return lambda: book.follow([0, "0"]), "Wrong(0)"


if __name__ == "__main__":
    unittest.main()
