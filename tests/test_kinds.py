"""[2], [21]: what is an integer, a letter, a text, a row, a tally, a story."""

import copy
import unittest

from ownlog.kinds import is_integer, is_letter, is_row, is_story, is_tally, is_text
from tests.helper import LETTERS, chance, other_things, random_row, random_story

# Beside a to z, capitals, digits, blanks and signs of the languages of the world.
OTHER_SIGNS = ["A", "Z", "M", "0", "9", " ", "\n", "`", "{", "~", "!", "-", "_", "@", "[", "\u00e9", "\u00df",
               "\u0430", "\u212a", "\u00b5", "\uff41"]


class Kinds(unittest.TestCase):

    def each(self, function, things, expected):
        # Some things cannot be shown: their index tells which one it is.
        for at, thing in enumerate(things):
            self.assertIs(function(thing), expected, f"thing {at}")


class Integers(Kinds):

    def test_integers(self):
        self.each(is_integer, [0, 1, -1, 2, 64, -1000, 10 ** 40], True)

    def test_integers_of_100_and_101_digits(self):
        # The document defines an integer as any int but True and False.
        for many in (100, 101):
            for number in (10 ** (many - 1), 10 ** many - 1):
                self.each(is_integer, [number, -number], True)

    def test_true_and_false_are_none(self):
        self.each(is_integer, [True, False], False)

    def test_other_things(self):
        self.each(is_integer, other_things(), False)
        self.each(is_integer, ["", "a", "0", "12", [], [1], (1,)], False)


class Texts(Kinds):

    def test_lengths(self):
        for many, most, expected in [
            (0, 1, False), (1, 1, True), (2, 1, False), (0, 1000, False), (1, 1000, True), (999, 1000, True),
            (1000, 1000, True), (1001, 1000, False), (12, 12, True), (13, 12, False), (999, 998, False),
        ]:
            self.assertIs(is_text("k" * many, most), expected, (many, most))

    def test_every_letter(self):
        self.assertIs(is_text(LETTERS, 26), True)
        self.assertIs(is_text(LETTERS, 25), False)
        for letter in LETTERS:
            self.assertIs(is_text(letter, 1), True)

    def test_another_character_at_any_place(self):
        for sign in OTHER_SIGNS:
            for many in (1, 2, 5):
                for at in range(many):
                    text = "m" * at + sign + "m" * (many - 1 - at)
                    self.assertIs(is_text(text, 1000), False, text)
        for at in (0, 1, 499, 998, 999):
            self.assertIs(is_text("z" * at + "Z" + "z" * (999 - at), 1000), False)

    def test_other_things(self):
        for most in (1, 2, 1000):
            self.each(lambda thing: is_text(thing, most), other_things(), False)
            self.each(lambda thing: is_text(thing, most), [0, 1, [], ["a"]], False)


class Letters(Kinds):

    def test_letters(self):
        self.each(is_letter, LETTERS, True)

    def test_no_letters(self):
        self.each(is_letter, ["", "aa", "ab", LETTERS], False)
        self.each(is_letter, OTHER_SIGNS, False)
        self.each(is_letter, other_things(), False)
        self.each(is_letter, [0, 97, ["a"], []], False)


class Rows(Kinds):

    def test_lengths(self):
        for many, expected in [(0, False), (1, False), (2, True), (3, True), (999, True), (1000, True),
                               (1001, False), (2000, False), (30000, False)]:
            self.assertIs(is_row("b" * many), expected, many)

    def test_letters(self):
        self.each(is_row, [LETTERS, "az", "za", "aa"], True)

    def test_another_character_at_any_place(self):
        for sign in OTHER_SIGNS:
            for many in (2, 3, 4):
                for at in range(many):
                    self.assertIs(is_row("a" * at + sign + "z" * (many - 1 - at)), False)
        for at in range(0, 1000, 37):
            self.assertIs(is_row("a" * at + "A" + "a" * (999 - at)), False)

    def test_other_things(self):
        self.each(is_row, other_things(), False)
        self.each(is_row, [0, 12, [], ["a", "b"], ("ab",)], False)


class Tallies(Kinds):

    def test_tallies(self):
        self.each(is_tally, [
            [("a", 1)], [("z", 10 ** 40)], [("a", 1), ("b", 1)], [("a", 3), ("m", 2), ("z", 10 ** 40)],
            [(letter, at + 1) for at, letter in enumerate(LETTERS)],
        ], True)

    def test_no_letters_and_too_many(self):
        self.each(is_tally, [[], [(letter, 1) for letter in LETTERS + "z"], [("a", 1)] * 27], False)
        self.each(is_tally, [[("a", 1)] * 30000], False)

    def test_letters_twice_or_out_of_order(self):
        self.each(is_tally, [
            [("a", 1), ("a", 1)], [("a", 1), ("a", 2)], [("b", 1), ("a", 1)], [("a", 1), ("c", 1), ("b", 1)],
            [("a", 1), ("b", 1), ("b", 1)], [("a", 1), ("b", 1), ("a", 1)],
            [(letter, 1) for letter in reversed(LETTERS)],
        ], False)

    def test_numbers(self):
        for number, expected in [(-1, False), (0, False), (1, True), (2, True), (10 ** 40 - 1, True),
                                 (10 ** 40, True), (10 ** 40 + 1, False), (10 ** 99, False), (True, False),
                                 (False, False), ("1", False), (None, False), ([1], False)]:
            for tally in ([("a", number)], [("a", number), ("b", 1)], [("a", 1), ("b", number)],
                          [("a", 1), ("b", number), ("c", 2)]):
                self.assertIs(is_tally(tally), expected, tally)

    def test_letters_that_are_none(self):
        for letter in ["", "ab", "A", "0", " ", None, 1, b"a", ("a",), ["a"]]:
            self.each(is_tally, [[(letter, 1)], [("a", 1), (letter, 1)], [(letter, 1), ("z", 1)]], False)

    def test_lists_for_tuples_and_the_reverse(self):
        self.each(is_tally, [
            [["a", 1]], (("a", 1),), [("a", 1), ["b", 1]], [["a", 1], ("b", 1)], (["a", 1],), ("a", 1), ["a", 1],
            {"a": 1}, [{"a": 1}], [{"a", 1}],
        ], False)

    def test_tuples_of_other_lengths(self):
        self.each(is_tally, [[()], [("a",)], [("a", 1, 1)], [("a", 1), ()], [("a", 1), ("b", 1, 2)],
                             [("a", 1), ("b",)], ["a1"], ["ab"], [1]], False)

    def test_other_things(self):
        self.each(is_tally, other_things(), False)
        self.each(is_tally, [0, "", "a1", "a"], False)


class Stories(Kinds):

    def test_no_calls(self):
        for last in (1, 2, 999, 10 ** 40):
            self.assertIs(is_story(last, []), True)

    def test_calls_at_the_last_place_then_and_beyond(self):
        for last in (1, 2, 3, 999, 10 ** 40):
            for many in (0, 1, 2, 30, 63):
                before = [0] * many
                last_then = last * 2 ** many
                for place, expected in [(last_then, True), (last_then - 1, True), (last_then + 1, False),
                                        (0, True), (-1, False), (-last_then, False), (-10 ** 99, False),
                                        (10 ** 99, False)]:
                    self.assertIs(is_story(last, before + [place]), expected, (last, many, place))

    def test_each_call_doubles_the_last_place_once(self):
        self.assertIs(is_story(1, [1, 2, 4, 8, 16]), True)
        self.assertIs(is_story(1, [1, 3, 4, 8, 16]), False)
        self.assertIs(is_story(1, [2]), False)
        self.assertIs(is_story(3, [3, 6, 12, 25]), False)

    def test_64_and_65_calls(self):
        for story in ([0] * 64, [1] * 64, [2 ** at for at in range(64)]):
            self.assertIs(is_story(1, story), True)
            self.assertIs(is_story(1, story[:-1]), True)
            self.assertIs(is_story(1, story + [0]), False)
        self.assertIs(is_story(10 ** 40, [10 ** 40 * 2 ** at for at in range(64)]), True)
        self.assertIs(is_story(1, [0] * 30000), False)

    def test_a_wrong_call_at_any_index(self):
        for at in range(64):
            for wrong in (-1, 2 ** at + 1, True, False, None, "0", [0], (0,), b"0", {}):
                story = [0] * at + [wrong] + [0] * (63 - at)
                self.assertIs(is_story(1, story), False, (at, wrong))

    def test_other_things(self):
        self.each(lambda thing: is_story(2, thing), other_things(), False)
        self.each(lambda thing: is_story(2, thing), [0, "", "0", "01", (0,), (0, 1), range(0), {0: 1}], False)

    def test_stories_of_rows(self):
        numbers = chance(21)
        for _ in range(200):
            row = random_row(numbers)
            story = random_story(numbers, row, numbers.randint(0, 64))
            self.assertIs(is_story(len(row) - 1, story), True)


class Unchanged(unittest.TestCase):

    def test_what_was_passed_is_unchanged(self):
        for thing in ([("b", 2), ("a", 1)], [("a", 1), ("b", 2)], [0, 1, 2], [2, 9, True], [["a", 1]], {"a": [1]},
                      [[0], [1]], [], [3, 2, 1]):
            before = copy.deepcopy(thing)
            for function in (is_integer, is_letter, is_row, is_tally):
                function(thing)
            is_text(thing, 5)
            is_story(2, thing)
            self.assertEqual(thing, before)


if __name__ == "__main__":
    unittest.main()
