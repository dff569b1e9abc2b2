"""[11], [90] to [95]: texts that begin, end, or stand in rows made from a row."""

import itertools
import unittest

from ownlog.far import Far
from ownlog.patterns import first_from
from ownlog.wishes import base_stories, begins, ends, shortest, stands, together
from tests.helper import (LETTERS, all_stories, chance, far_letter, random_row, refusal, same_after, written)

HUNDRED = "".join(LETTERS[at * at * at % 26] for at in range(100))
FULFILS = {
    "begin": lambda late, text: late.startswith(text),
    "end": lambda late, text: late.endswith(text),
    "stand": lambda late, text: text in late,
}
WISHES = {"begin": begins, "end": ends, "stand": stands}


def plain_base(row, size):
    """The base stories of a row for a size, each with its base row: all stories of the least number of calls."""
    calls = 0
    while (len(row) - 1) * 2 ** calls < size:
        calls += 1
    return all_stories(row, calls)


def parts(text):
    return {text[start:stop] for start in range(len(text)) for stop in range(start + 1, len(text) + 1)}


def plain_parts(base, text, fits):
    """The parts that can begin, or end, for a base row: added until there are no more."""
    found = {part for part in parts(text) if fits(base, part)}
    while True:
        more = set()
        for part in parts(text) - found:
            for cut in range(1, len(part)):
                x, z = part[:cut], part[cut:]
                longer, shorter = (x, z) if len(x) >= len(z) else (z, x)
                if fits(longer, shorter) and longer in found:
                    more.add(part)
        if not more:
            return sorted(found)
        found |= more


def plain_heads(base, text):
    """The heads: the empty one, and each that is another head with an end of the base row behind it."""
    found = [0]
    for stop in range(1, len(text) + 1):
        if [at for at in found if base.endswith(text[at:stop])]:
            found.append(stop)
    return found


def plain_tails(base, text):
    return [len(text) - at for at in reversed(plain_heads(base[::-1], text[::-1]))]


def plain_table(row, text, where):
    """The table of a text that can never be."""
    table = []
    for story, base in plain_base(row, len(text)):
        if where == "stand":
            table.append((story, plain_heads(base, text), plain_tails(base, text)))
        else:
            fits = str.startswith if where == "begin" else str.endswith
            table.append((story, plain_parts(base, text, fits)))
    return table


def plain_never(row, text, where):
    """Whether no row made from the row has the text, as the points tell it."""
    for story, base in plain_base(row, len(text)):
        if where == "stand":
            for i in plain_heads(base, text):
                if any(i < j and text[i:j] in base for j in plain_tails(base, text)):
                    return False
        elif text in plain_parts(base, text, str.startswith if where == "begin" else str.endswith):
            return False
    return True


def made_within(row, calls):
    """All rows made from a row by up to so many calls."""
    found = late = {row}
    for _ in range(calls):
        late = {written(own, [place]) for own in late for place in range(len(own))}
        found = found | late
    return found


def lists_of(thing):
    """All lists in a thing, itself included."""
    if isinstance(thing, (list, tuple)):
        return [thing] * isinstance(thing, list) + [own for item in thing for own in lists_of(item)]
    return []


def mirrored(row, answer, many=None):
    """What is told of a row read backward, from what is told of the row; many is the length of a text that stands."""
    word, table = answer
    if word == "story":
        return word
    found = []
    for story, *told in table:
        story = [(len(row) - 1) * 2 ** at - place for at, place in enumerate(story)]
        if many is None:
            found.append((story, sorted(part[::-1] for part in told[0])))
        else:
            found.append((story, [many - at for at in reversed(told[1])], [many - at for at in reversed(told[0])]))
    return word, sorted(found)


class Wishes(unittest.TestCase):

    def see_text(self, row, story, text, where):
        """See that a story leads to a long row that has a text, letter by letter."""
        self.assertIsInstance(story, list)
        self.assertLessEqual(len(story), 64)
        far = Far(row, story)
        many = len(text)
        place = {"begin": 0, "end": far.length() - many}.get(where)
        if place is None:
            place = first_from(far, text, 0)
        found = "".join(far_letter(row, story, place + at) for at in range(many))
        self.assertEqual(found, text, (row, story, where))
        if far.length() < 10000:
            self.assertTrue(FULFILS[where](written(row, story), text))

    def see_answer(self, row, text, where):
        """See that an answer is right: a story by the row that it leads to, a table by the words of the points."""
        answer = same_after(self, WISHES[where], row, text)
        self.assertEqual(answer[0], "never" if plain_never(row, text, where) else "story")
        if answer[0] == "story":
            self.see_text(row, answer[1], text, where)
        else:
            self.assertEqual(answer, ("never", plain_table(row, text, where)))
            found = lists_of(answer)
            self.assertEqual(len({id(own) for own in found}), len(found))
        return answer[0]


class BaseStories(unittest.TestCase):

    def test_all_rows(self):
        for many in list(range(2, 15)) + [20, 50, 99, 100]:
            for size in range(1, 13):
                row = HUNDRED[:many]
                found = [story for story, _ in plain_base(row, size)]
                self.assertEqual(same_after(self, base_stories, row, size), found)
                self.assertEqual(found, sorted(found))

    def test_numbers_of_calls(self):
        for last, size, calls in [(1, 1, 0), (1, 2, 1), (1, 3, 2), (1, 4, 2), (1, 5, 3), (1, 8, 3), (1, 9, 4),
                                  (1, 12, 4), (2, 2, 0), (2, 3, 1), (5, 5, 0), (5, 6, 1), (5, 10, 1), (5, 11, 2),
                                  (11, 11, 0), (11, 12, 1), (12, 12, 0), (99, 12, 0)]:
            found = base_stories("a" * (last + 1), size)
            self.assertEqual({len(story) for story in found}, {calls})
        self.assertEqual(len(base_stories("ab", 12)), 270)

    def test_the_letters_do_not_matter(self):
        for row in ("aa", "ab", "ba", "zz"):
            self.assertEqual(base_stories(row, 5), base_stories("ab", 5))

    def test_lists_that_are_changed_are_returned_anew(self):
        for row, size in (("abc", 2), ("ab", 2), ("abc", 3), ("ab", 4)):
            told = base_stories(row, size)
            self.assertEqual(len({id(own) for own in lists_of(told)}), len(told) + 1)
            expected = [list(story) for story in told]
            told[0].append(7)
            del told[-1]
            self.assertEqual(base_stories(row, size), expected)


class Alone(Wishes):

    def test_all_rows_made_by_a_few_calls(self):
        seen = []
        for row, calls in [("ab", 4), ("aa", 4), ("abc", 3), ("aba", 3), ("abb", 3), ("abca", 3), ("aabb", 3)]:
            late = made_within(row, calls)
            for many in range(1, 5):
                for letters in itertools.product("abc" if "c" in row else "ab", repeat=many):
                    text = "".join(letters)
                    for where, fulfils in FULFILS.items():
                        answer = WISHES[where](row, text)
                        if answer[0] == "story":
                            self.see_text(row, answer[1], text, where)
                        else:
                            self.assertFalse([own for own in late if fulfils(own, text)], (row, text, where))
                        seen.append((where, answer[0]))
        self.assertEqual(len(set(seen)), 6)

    def test_all_small_rows_and_texts(self):
        for row in ("ab", "aa", "abc", "aba", "abcb"):
            for many in range(1, 5):
                for letters in itertools.product("abz" if "c" not in row else "abc", repeat=many):
                    for where in WISHES:
                        self.see_answer(row, "".join(letters), where)

    def test_drawn_texts(self):
        numbers = chance(910)
        seen = []
        for _ in range(120):
            row = random_row(numbers, numbers.choice([3, 5, 9, 15]), numbers.choice([2, 3, 3]))
            many = numbers.randint(3, 12 if len(row) > 4 else 7)
            if numbers.random() < 0.6:
                # A piece of a row that was made from the row: so the text can stand at least.
                late = written(row, [numbers.randint(0, (len(row) - 1) * 2 ** at) for at in range(4)])
                start = numbers.choice([0, len(late) - many, numbers.randint(0, max(0, len(late) - many))])
                text = late[max(0, start):][:many]
            else:
                text = "".join(numbers.choice(row) for _ in range(many))
            for where in WISHES:
                seen.append((where, self.see_answer(row, text, where)))
        self.assertEqual(len(set(seen)), 6)
        self.assertGreater(min(seen.count(own) for own in set(seen)), 10)

    def test_long_texts_of_short_rows(self):
        for row, text in [("ab", "abababababab"), ("ba", "abababababab"), ("ab", "aaaaaaaaaaab"), ("ab", "ba" * 6),
                          ("aa", "a" * 12), ("ab", "b" * 12), ("abc", "cccbbbcccaaa"), ("abc", "bababababab")]:
            for where in WISHES:
                self.see_answer(row, text, where)

    def test_rows_of_100_letters(self):
        numbers = chance(911)
        pieces = [HUNDRED[:12], HUNDRED[-12:], HUNDRED[40:52], HUNDRED[0], HUNDRED[-1], HUNDRED[:5] + HUNDRED[:7],
                  HUNDRED[-7:] + HUNDRED[-5:], HUNDRED[-6:] + HUNDRED[:6], HUNDRED[-3:] * 2 + HUNDRED[:3] * 2,
                  HUNDRED[-1] * 4 + HUNDRED[50:54] + HUNDRED[0] * 4, HUNDRED[-1] * 6 + HUNDRED[0] * 6,
                  HUNDRED[10:16] + HUNDRED[30:36]]
        drawn = "".join(numbers.choice("ab") for _ in range(100))
        for row in (HUNDRED, drawn, "a" * 99 + "b", "a" * 100):
            for text in pieces + [drawn[:6] * 2, drawn[60:66] + drawn[:6], "a" * 12, "ab" * 6, "b" * 12, "bbba"]:
                for where in WISHES:
                    self.see_answer(row, text, where)

    def test_texts_as_long_as_the_row_and_longer(self):
        for row in ("ab", "abc", "abca", "abcdef", "aab"):
            for text in (row, row[:-1], row + row[-1], row[0] + row, row + row[0], row * 2, row[::-1]):
                for where in WISHES:
                    self.see_answer(row, text[:12], where)
            # The row itself begins, ends and stands, though the empty story is no base story for it.
            self.assertEqual([WISHES[where](row, row)[0] for where in WISHES], ["story"] * 3)

    def test_letters_that_the_row_does_not_have(self):
        for row in ("ab", "abc", "abca" * 25, "b" * 100):
            for text in ("q", "aq", "qa", "aqa", "qq", "bqbbbbb", "q" * 12):
                for where in WISHES:
                    self.assertEqual(self.see_answer(row, text, where), "never")
        for where, wish in WISHES.items():
            self.assertEqual([wish("ab", "abbabaabbabq")[0], len(wish("ab", "abbabaabbabq")[1])], ["never", 270])

    def test_all_pieces_of_a_row_stand(self):
        for row in ("ab", "abcd", "aabab"):
            for part in sorted(parts(row)):
                self.see_text(row, stands(row, part)[1], part, "stand")
                # What stands anywhere can also begin or end only where the points say so.
                self.assertEqual(begins(row, part)[0] == "story", not plain_never(row, part, "begin"))

    def test_rows_read_backward_exchange_begin_and_end(self):
        numbers = chance(912)
        for _ in range(80):
            row = random_row(numbers, 8, 3)
            text = "".join(numbers.choice(row) for _ in range(numbers.randint(1, 7)))
            back, wish = row[::-1], text[::-1]
            for one, other, many in ((begins, ends, None), (ends, begins, None), (stands, stands, len(text))):
                told = other(back, wish)
                self.assertEqual(mirrored(row, one(row, text), many), "story" if told[0] == "story" else told)

    def test_letters_exchanged_one_to_one(self):
        numbers = chance(913)
        for _ in range(40):
            row = random_row(numbers, 6, 3)
            text = "".join(numbers.choice(row) for _ in range(numbers.randint(1, 6)))
            other = str.maketrans("abc", "yxk")
            for wish in WISHES.values():
                self.assertEqual(wish(row, text)[0], wish(row.translate(other), text.translate(other))[0])
            stories = [story for story, *_ in stands(row, "z" * len(text))[1]]
            self.assertEqual([story for story, *_ in stands(row.translate(other), "z" * len(text))[1]], stories)

    def test_lists_that_are_changed_are_returned_anew(self):
        for where, wish in WISHES.items():
            for row, text in (("ab", "zz"), ("ab", "ab"), ("abc", "bca")):
                expected = repr(wish(row, text))
                for own in lists_of(wish(row, text)):
                    own.append(99)
                self.assertEqual(repr(wish(row, text)), expected)


def ordered_stories(row, many):
    """The first so many stories, by the number of their calls, then in ascending order, with the rows made."""
    found = []
    calls = 0
    while len(found) < many:
        found += all_stories(row, calls)
        calls += 1
    return found[:many]


class Shortest(Wishes):

    def test_all_stories_in_order(self):
        for row in ("ab", "aa", "abc", "aba", "abca", "aabb"):
            stories = ordered_stories(row, 400)
            for many in range(1, 5):
                for letters in itertools.product("abc" if "c" in row else "ab", repeat=many):
                    text = "".join(letters)
                    for where, fulfils in FULFILS.items():
                        self.see_shortest(row, text, where, stories, fulfils)

    def test_drawn_rows_and_texts(self):
        numbers = chance(940)
        for _ in range(60):
            row = random_row(numbers, 25, 3)
            stories = ordered_stories(row, 400)
            late = stories[numbers.randint(0, 399)][1]
            many = numbers.randint(2, 12)
            for text in (late[:many], late[-many:], late[len(late) // 2:][:many], row[::-1][:many]):
                for where, fulfils in FULFILS.items():
                    self.see_shortest(row, text, where, stories, fulfils)

    def see_shortest(self, row, text, where, stories, fulfils):
        """Compare with all stories in order, with limits about the place of the first one that fulfils."""
        if WISHES[where](row, text)[0] == "never":
            for limit in (1, 2, 400):
                self.assertIsNone(shortest(row, text, where, limit=limit))
            self.assertIsNone(shortest(row, text, where))
            return
        places = [at for at, (_, late) in enumerate(stories) if fulfils(late, text)]
        if not places:
            self.assertEqual(refusal(shortest, row, text, where), "TooMany(400)")
            return
        at = places[0]
        story = stories[at][0]
        self.assertEqual(same_after(self, shortest, row, text, where), story)
        self.assertEqual(shortest(row, text, where, limit=at + 1), story)
        if at > 0:
            self.assertEqual(refusal(shortest, row, text, where, limit=at), f"TooMany({at})")
            self.assertEqual(refusal(shortest, row, text, where, limit=1), "TooMany(1)")

    def test_the_empty_story(self):
        for row in ("ab", "abca", HUNDRED):
            for where, text in (("begin", row[:2]), ("end", row[-2:]), ("stand", row[1:3]), ("stand", row[:12])):
                self.assertEqual(shortest(row, text, where), [])
                self.assertEqual(shortest(row, text, where, limit=1), [])

    def test_limits(self):
        # The first stories of a row of 100 letters are the empty one and those of one call each.
        text = HUNDRED[:2] * 2
        self.assertEqual(shortest(HUNDRED, text, "begin"), [2])
        self.assertEqual(shortest(HUNDRED, text, "begin", limit=4), [2])
        self.assertEqual(refusal(shortest, HUNDRED, text, "begin", limit=3), "TooMany(3)")
        text = HUNDRED[-5:] * 2
        self.assertEqual(shortest(HUNDRED, text, "end"), [94])
        self.assertEqual(refusal(shortest, HUNDRED, text, "end", limit=95), "TooMany(95)")
        self.assertEqual(shortest(HUNDRED, text, "end", limit=96), [94])
        # Ahead of it come the empty story, 100 stories of one call, and of two calls 2 * 199 and two more.
        text = HUNDRED[:2] * 2 + HUNDRED[:3]
        self.assertEqual(shortest(HUNDRED, text, "begin", limit=502), [2, 2])
        self.assertEqual(shortest(HUNDRED, text, "begin", limit=1000), [2, 2])
        for limit in (501, 400, 2, 1):
            self.assertEqual(refusal(shortest, HUNDRED, text, "begin", limit=limit), f"TooMany({limit})")
        self.assertEqual(refusal(shortest, HUNDRED, text, "begin"), "TooMany(400)")
        self.assertEqual(refusal(shortest, HUNDRED, HUNDRED[:2] * 4 + HUNDRED[:4], "begin", limit=999), "TooMany(999)")

    def test_never(self):
        for where in WISHES:
            self.assertIsNone(shortest("abc", "z", where, limit=1))
        self.assertIsNone(shortest("abc", "ac", "stand", limit=1))
        self.assertIsNone(shortest("abc", "ba", "begin", limit=1))
        self.assertIsNone(shortest("abc", "cb", "end", limit=1000))

    def test_returned_lists_are_new(self):
        told = shortest("abc", "aab", "begin")
        told.append(5)
        self.assertEqual(shortest("abc", "aab", "begin"), [1])
        told = shortest("abc", "abc", "begin")
        told.append(5)
        self.assertEqual(shortest("abc", "abc", "begin"), [])


class Together(Wishes):

    def see_together(self, row, beginning, insides, end):
        """See that the long row has everything, or that the first text that can never be is told."""
        word, told = same_after(self, together, row, beginning, insides, end)
        wishes = [(beginning, "begin")] + [(text, "stand") for text in insides] + [(end, "end")]
        never = [at for at, (text, where) in enumerate(wishes) if plain_never(row, text, where)]
        self.assertEqual(word, "never" if never else "story")
        if never:
            self.assertEqual(told, never[0])
        else:
            for text, where in wishes:
                self.see_text(row, told, text, where)
        return word

    def draw(self, numbers, row, most):
        """Texts that can begin, stand and end, mostly; all of them new to the row, often."""
        late = row
        for _ in range(4):
            late = written(late, [numbers.choice([0, 1, len(late) - 1, numbers.randrange(len(late))])])
        many = [numbers.randint(1, most) for _ in range(5)]
        insides = []
        for at in range(numbers.randint(0, 3)):
            start = numbers.randint(0, len(late) - many[at])
            insides.append(late[start:start + many[at]])
        return late[:many[3]], insides, late[-many[4]:]

    def test_drawn_texts(self):
        numbers = chance(950)
        seen = []
        for _ in range(120):
            row = random_row(numbers, 14, 3)
            beginning, insides, end = self.draw(numbers, row, min(12, len(row) - 1))
            seen.append(self.see_together(row, beginning, insides, end))
            if numbers.random() < 0.5:
                insides = insides[:2] + [beginning[::-1]]
                seen.append(self.see_together(row, end if numbers.random() < 0.3 else beginning, insides, end))
        self.assertGreater(seen.count("story"), 40)
        self.assertGreater(seen.count("never"), 10)

    def test_texts_that_need_most_calls(self):
        for row in ("a" + "cdefghijklm" + "b", "a" * 2 + "cdefghijklm" + "b" * 2, HUNDRED):
            first, last = row[0], row[-1]
            inside = last * 5 + row[3:5] + first * 5
            for insides in ([], [inside], [inside, last * 12], [last * 6 + first * 6, first * 12, last * 11 + row[5]]):
                self.assertEqual(self.see_together(row, first * 12, insides, last * 12), "story")
                self.assertEqual(self.see_together(row, first * 11 + row[:1], insides, row[-1:] + last * 11), "story")

    def test_all_that_the_row_itself_has(self):
        for row in ("abc", "abcd", HUNDRED):
            most = min(12, len(row) - 1)
            texts = [row[:most], row[-most:], row[1:1 + most]]
            self.see_together(row, row[:most], [], row[-most:])
            self.see_together(row, row[:most], texts, row[-most:])
            self.see_together(row, row[:1], texts[:2], row[-1:])

    def test_pieces_at_the_ends_of_the_row(self):
        # The texts are as long as the last place says, so that nothing of the ends may get lost on the way.
        for row in ("abcd", "abca", "aabb", "abcdefghijklm"):
            last = len(row) - 1
            insides = [row[-1] + row[:last - 1], row[2 - last:] + row[0], row[1:], row[:-1]]
            for three in itertools.combinations([text for text in insides if len(text) <= last], 3):
                for beginning in (row[:last], row[:last - 1]):
                    for end in (row[-last:], row[1 - last:], row[-1] * last):
                        self.assertEqual(self.see_together(row, beginning, list(three), end), "story")

    def test_the_first_text_that_can_never_be(self):
        good, bad = "ab", "ac"
        for row in ("abcd", "abcdbcdbcdbcd"):
            for pattern in itertools.product([True, False], repeat=5):
                beginning = "ab" if pattern[0] else "ba"
                end = "cd" if pattern[4] else "dc"
                for many in range(4):
                    insides = [good if own else bad for own in pattern[1:1 + many]]
                    holds = [pattern[0]] + list(pattern[1:1 + many]) + [pattern[4]]
                    answer = together(row, beginning, insides, end)
                    if all(holds):
                        self.assertEqual(answer[0], "story")
                    else:
                        self.assertEqual(answer, ("never", holds.index(False)))

    def test_rows_that_are_too_short(self):
        for last in (1, 2, 5, 11):
            row = "abcdefghijkl"[:last + 1]
            long, fits = "z" * (last + 1), "z" * last
            # Texts that can never be, so that the length is looked at ahead of them.
            for texts in ((long, [], fits), (fits, [], long), (fits, [long], fits), (fits, [fits, fits, long], fits),
                          (fits, [fits, long, fits], long)):
                self.assertEqual(refusal(together, row, *texts), "TooShort()")
            self.assertEqual(together(row, fits, [fits] * 3, fits), ("never", 0))
            self.assertEqual(self.see_together(row, row[:last], [row[1:]] * 2, row[1:]), "story")
            self.assertEqual(refusal(together, row, row, [], row[-1]), "TooShort()")
            self.assertEqual(refusal(together, row, row[0], [row], row[-1]), "TooShort()")

    def test_returned_lists_are_new(self):
        word, told = together("abcd", "aab", ["dab"], "cdd")
        expected = list(told)
        told.append(3)
        self.assertEqual(together("abcd", "aab", ["dab"], "cdd"), (word, expected))


if __name__ == "__main__":
    unittest.main()
