"""[3], [4], [91], [92], [93]: tables that show that a text can never begin, end, or stand."""

import copy
import itertools
import unittest

from ownlog.tables import shows_no_beginning, shows_no_end, shows_no_place
from ownlog.wishes import begins, ends, stands
from tests.helper import chance, other_things, random_row, written
from tests.test_wishes import HUNDRED, lists_of, parts, plain_base

KINDS = {
    "begin": (begins, shows_no_beginning),
    "end": (ends, shows_no_end),
    "stand": (stands, shows_no_place),
}


def plain_line(base, text, line, where):
    """Whether the lists of a line behind the story are as the points say."""
    if where != "stand":
        told = line[1]
        if any(type(part) is not str or part not in parts(text) - {text} for part in told):
            return False
        fits = str.startswith if where == "begin" else str.endswith
        for part in parts(text):
            cuts = [sorted((part[:cut], part[cut:]), key=len) for cut in range(1, len(part))]
            needed = [longer in told for shorter, longer in cuts if fits(longer, shorter)]
            if (fits(base, part) or any(needed)) and part not in told:
                return False
        return told == sorted(set(told))
    heads, tails = line[1:]
    many = len(text)
    for told in (heads, tails):
        if any(type(at) is not int or at not in range(many + 1) for at in told) or told != sorted(set(told)):
            return False
    heads_hold = 0 in heads and all(k in heads for i in heads for k in range(i + 1, many + 1)
                                    if base.endswith(text[i:k]))
    tails_hold = many in tails and all(k in tails for j in tails for k in range(j) if base.startswith(text[k:j]))
    return heads_hold and tails_hold and not any(text[i:j] in base for i in heads for j in tails if j > i)


def plain_shows(row, text, thing, where):
    """Whether thing is a table as the points say, for things without values that refuse to be compared."""
    bases = plain_base(row, len(text))
    if type(thing) is not list or len(thing) != len(bases):
        return False
    for (story, base), line in zip(bases, thing):
        if type(line) is not tuple or len(line) != (3 if where == "stand" else 2):
            return False
        if any(type(own) is not list for own in line) or any(type(place) is not int for place in line[0]):
            return False
        if line[0] != story or not plain_line(base, text, line, where):
            return False
    return True


def never_ones(seed, many, most=7, letters=3):
    """Rows and texts that can never be, with how, and the table."""
    numbers = chance(seed)
    while many > 0:
        row = random_row(numbers, most, letters)
        late = written(row, [numbers.randrange(len(row)), numbers.randrange(2 * len(row) - 1)])
        start = numbers.randrange(len(late))
        text = late[start:start + numbers.randint(1, 6)]
        if numbers.random() < 0.5:
            text = "".join(numbers.choice(row) for _ in range(numbers.randint(1, 6)))
        where = numbers.choice(list(KINDS))
        answer, table = KINDS[where][0](row, text)
        if answer == "never":
            many -= 1
            yield row, text, where, table


OTHERS = [True, False, None, 0, 1, -1, 10 ** 99, "", "a", "b", "z", "ab", "A", (), [], [[]], [()], [True], {}, b"a",
          "a\n", ("a",), ["a"], [0], [0, 1], [1, 0], [[], [0], [1]], ([], []), ([], [], [])]


def spoiled(numbers, table):
    """A table with a change at one place: a line, a story, a list, or an item of a list."""
    table = copy.deepcopy(table)
    at = numbers.randrange(len(table))
    line = list(table[at])
    deed = numbers.randrange(14)
    if deed == 0:
        del table[at]
    elif deed == 1:
        table.insert(at, copy.deepcopy(table[at]))
    elif deed == 2:
        other = numbers.randrange(len(table))
        table[at], table[other] = table[other], table[at]
    elif deed == 3:
        table[at] = line
    elif deed == 4:
        table[at] = numbers.choice(OTHERS)
    elif deed == 5:
        table[at] = tuple(line + [[]])
    elif deed == 6:
        table[at] = tuple(line[:-1])
    else:
        k = numbers.randrange(len(line))
        line[k] = spoiled_list(numbers, line[k], deed)
        table[at] = tuple(line)
    return table


def spoiled_list(numbers, own, deed):
    """A list with a change at one place, or something else."""
    if deed == 7:
        return tuple(own)
    if deed == 8:
        return numbers.choice(OTHERS)
    own = list(own)
    at = numbers.randrange(len(own) + 1)
    if deed == 9 and own:
        del own[at % len(own)]
    elif deed == 10 and own:
        own.insert(at, own[at % len(own)])
    elif deed == 11:
        own = own[::-1]
    elif deed == 12 and own:
        own[at % len(own)] = bool(own[at % len(own)])
    else:
        own.insert(at, numbers.choice(OTHERS + ["a", "b", "c", "aa", "ab", "ba", "bb", 2, 3, 4]))
    return own


def can_be_spoiled(table):
    """Whether all lines are still tuples of lists."""
    return all(isinstance(line, tuple) and line and all(isinstance(own, list) for own in line) for line in table)


class Tables(unittest.TestCase):

    def see(self, row, text, thing, where, expected=None):
        """See that the answer is that of the points' words, and that the thing stays as it was."""
        before = copy.deepcopy(thing)
        told = KINDS[where][1](row, text, thing)
        self.assertIs(told, plain_shows(row, text, thing, where), (row, text, thing, where))
        if expected is not None:
            self.assertIs(told, expected, (row, text, thing, where))
        self.assertEqual(repr(thing), repr(before))
        return told

    def test_all_returned_tables(self):
        for row in ("ab", "aa", "abc", "aba"):
            for many in range(1, 5):
                for letters in itertools.product("abz" if "c" not in row else "abc", repeat=many):
                    text = "".join(letters)
                    for where, (wish, _) in KINDS.items():
                        answer, table = wish(row, text)
                        if answer == "never":
                            self.see(row, text, table, where, True)

    def test_tables_of_long_rows_and_long_texts(self):
        for row, text in [(HUNDRED, "q" * 12), (HUNDRED, HUNDRED[:6] + "q" + HUNDRED[-5:]), ("a" * 99 + "b", "bba"),
                          ("abcdefghijklm", "mmabcklmabac"), ("abc", "cccbbbaabbac"), ("ab", "abbabaabbabz"),
                          (HUNDRED, HUNDRED[-3:] * 2 + HUNDRED[1:4] * 2)]:
            for where, (wish, _) in KINDS.items():
                answer, table = wish(row, text)
                if answer == "never":
                    self.see(row, text, table, where, True)

    def test_one_part_or_one_head_less(self):
        for row, text, where, table in never_ones(920, 150):
            self.see(row, text, table, where, True)
            for at, line in enumerate(table[:5]):
                for k in range(1, len(line)):
                    for gone in range(len(line[k])):
                        less = copy.deepcopy(table)
                        del less[at][k][gone]
                        self.see(row, text, less, where, False)

    def test_more_parts_than_needed(self):
        numbers = chance(921)
        seen = []
        for row, text, where, table in never_ones(922, 200, 5):
            if where == "stand":
                continue
            more = copy.deepcopy(table)
            for line in more:
                added = [part for part in sorted(parts(text) - {text}) if numbers.random() < 0.3]
                line[1][:] = sorted(set(line[1] + added))
            seen.append(self.see(row, text, more, where) and more != table)
        self.assertGreater(seen.count(True), 10)
        self.assertGreater(seen.count(False), 10)
        # The part b begins no row made from abc, but a table may have it, and then bb and bc that are not needed.
        self.see("abc", "bc", [([], ["b"])], "begin", True)
        self.see("abc", "bc", [([], ["b", "c"])], "begin", True)
        self.see("abc", "bcc", [([place], ["b", "c", "cc"]) for place in range(3)], "begin", True)
        self.see("abc", "bcc", [([place], ["b", "c"]) for place in range(3)], "begin", False)

    def test_more_heads_than_needed(self):
        numbers = chance(923)
        seen = []
        for row, text, where, table in never_ones(924, 1500, 5):
            if where == "stand":
                more = copy.deepcopy(table)
                for line in more:
                    for k in (1, 2):
                        added = [at for at in range(len(text) + 1) if numbers.random() < 0.1]
                        line[k][:] = sorted(set(line[k] + added))
                seen.append(self.see(row, text, more, where) and more != table)
        self.assertGreater(seen.count(True), 10)
        self.assertGreater(seen.count(False), 10)
        self.see("abc", "acz", [([place], [0], [3]) for place in range(3)], "stand", True)
        self.see("abc", "acz", [([place], [0, 3], [0, 3]) for place in range(3)], "stand", True)
        self.see("abc", "acz", [([place], [0, 2], [2, 3]) for place in range(3)], "stand", True)
        self.see("abc", "acz", [([place], [0, 1], [1, 3]) for place in range(3)], "stand", False)
        for heads, tails in (([0, 4], [3]), ([-1, 0], [3]), ([0], [3, 4]), ([0], [-1, 3]), ([0], [0]), ([3], [3]),
                             ([], [3]), ([0], []), ([0, 0], [3]), ([0, 3, 2], [3]), ([0], [3, 2])):
            self.see("abc", "acz", [([place], list(heads), list(tails)) for place in range(3)], "stand", False)

    def test_tables_of_texts_that_can_be(self):
        numbers = chance(925)
        for _ in range(200):
            row = random_row(numbers, 5, 2)
            text = "".join(numbers.choice("ab") for _ in range(numbers.randint(1, 4)))
            for where, (wish, _) in KINDS.items():
                if wish(row, text)[0] == "story":
                    for full in (True, False):
                        told = sorted(parts(text) - {text}) if full else []
                        lines = [(story, list(told)) for story, _ in plain_base(row, len(text))]
                        if where == "stand":
                            heads = list(range(len(text))) if full else [0]
                            lines = [(story, list(heads), [len(text)]) for story, _ in lines]
                        self.see(row, text, lines, where, False)

    def test_the_text_itself_is_no_part(self):
        for row, text, where in [("abc", "ab", "begin"), ("abc", "z", "begin"), ("abc", "bc", "end"),
                                 ("abc", "z", "end"), ("abc", "aa", "end"), ("abc", "bb", "begin")]:
            for told in ([text], sorted(parts(text)), sorted(parts(text) - {text})):
                self.see(row, text, [([], told)], where)
                self.assertFalse(text in told and KINDS[where][1](row, text, [([], told)]))

    def test_tables_of_another_row_or_text(self):
        found = list(never_ones(926, 60))
        for row, text, where, table in found:
            for other in ("ab", "ba", "abc", "cab", "abcabc", row[::-1]):
                self.see(other, text, table, where)
            for other in (text[::-1], text + "a", text[:-1] or "b", "ab", "ca", "z"):
                self.see(row, other, table, where)
            for other in KINDS:
                self.see(row, text, table, other)

    def test_tables_spoiled_at_one_or_two_places(self):
        numbers = chance(927)
        seen = []
        for row, text, where, table in never_ones(928, 150, 5):
            for _ in range(25):
                thing = spoiled(numbers, table)
                if numbers.random() < 0.3 and thing and can_be_spoiled(thing):
                    thing = spoiled(numbers, thing)
                seen.append(self.see(row, text, thing, where))
        self.assertGreater(seen.count(True), 20)
        self.assertGreater(seen.count(False), 1000)

    def test_true_and_false_are_no_integers(self):
        table = stands("ab", "zb")[1]
        self.see("ab", "zb", table, "stand", True)
        self.assertEqual([line[0] for line in table], [[0], [1]])
        for at, place in ((0, False), (1, True)):
            other = copy.deepcopy(table)
            other[at][0][0] = place
            self.see("ab", "zb", other, "stand", False)
            other = copy.deepcopy(begins("ab", "zb")[1])
            self.see("ab", "zb", other, "begin", True)
            other[at][0][0] = place
            self.see("ab", "zb", other, "begin", False)
            other = copy.deepcopy(table)
            self.assertEqual(other[at][1], [0])
            other[at][1][0] = False
            self.see("ab", "zb", other, "stand", False)
        other = copy.deepcopy(stands("abc", "z")[1])
        self.assertEqual(other, [([], [0], [1])])
        other[0][2][0] = True
        self.see("abc", "z", other, "stand", False)

    def test_values_of_every_other_kind(self):
        for where, (wish, shows) in KINDS.items():
            for row, text in (("abc", "zb"), ("ab", "zb"), (HUNDRED, "zq")):
                table = wish(row, text)[1]
                self.assertIs(shows(row, text, table), True)
                # Some things cannot be shown: their index tells which one it is.
                for number, thing in enumerate(other_things()):
                    self.assertIs(shows(row, text, thing), False, f"thing {number}")
                    self.assertIs(shows(row, text, [thing] * len(table)), False, f"thing {number}")
                    for at, line in enumerate(table):
                        self.see_in_line(lambda late: shows(row, text, late), table, at, thing, number)

    def see_in_line(self, shows, table, at, thing, number):
        """See that nothing is shown if a thing stands for a list of a line, in it, or behind it."""
        for k in range(len(table[at])):
            line = list(table[at])
            self.assertIs(shows(table[:at] + [tuple(line + [thing])] + table[at + 1:]), False, f"thing {number}")
            own = line[k]
            # The empty list may be one with nothing needed in it.
            if not isinstance(thing, list):
                line[k] = thing
                self.assertIs(shows(table[:at] + [tuple(line)] + table[at + 1:]), False, f"thing {number}")
            for place in {0, len(own)}:
                line[k] = own[:place] + [thing] + own[place:]
                self.assertIs(shows(table[:at] + [tuple(line)] + table[at + 1:]), False, f"thing {number}")

    def test_no_lines_and_one_more(self):
        for where, (wish, _) in KINDS.items():
            for row, text in (("abc", "z"), ("ab", "zz"), ("ab", "zbz")):
                table = wish(row, text)[1]
                self.see(row, text, [], where, False)
                self.see(row, text, table + table[-1:], where, False)
                self.see(row, text, table[:-1], where, False)
                self.see(row, text, table[1:], where, False)
                self.see(row, text, tuple(table), where, False)
                if len(table) > 1:
                    self.see(row, text, table[::-1], where, False)
                    self.see(row, text, [table[0]] * len(table), where, False)

    def test_large_things(self):
        for where, (wish, shows) in KINDS.items():
            table = wish("ab", "z" * 12)[1]
            self.assertEqual(len(table), 270)
            self.assertIs(shows("ab", "z" * 12, table), True)
            for filler in ("z", 0, "z" * 11, None):
                large = copy.deepcopy(table)
                large[0][1].extend([filler] * 29000)
                self.assertIs(shows("ab", "z" * 12, large), False)
                self.assertIs(shows("ab", "z" * 12, [filler] * 30000), False)

    def test_what_was_passed_stays(self):
        for row, text, where, table in never_ones(929, 20):
            before = copy.deepcopy(table)
            inner = [id(own) for own in lists_of(table)]
            for _ in range(2):
                self.assertIs(KINDS[where][1](row, text, table), True)
            self.assertEqual(table, before)
            self.assertEqual([id(own) for own in lists_of(table)], inner)


if __name__ == "__main__":
    unittest.main()
