"""[2] to [11]: what holds over the whole program, where several of its files meet."""

import copy
import itertools
import unittest

from ownlog.books import Book
from ownlog.console import Console
from ownlog.counting import stories_many, story_number, story_of
from ownlog.elders import are_obstacles, elders, obstacles
from ownlog.far import Far
from ownlog.joints import joints
from ownlog.kinds import is_row, is_story, is_tally
from ownlog.notation import read_far, read_tally, show_far, show_tally
from ownlog.numbering import number_of, row_of, rows_many, seeds_many
from ownlog.order import first_difference, least_story, sorted_calls
from ownlog.pasts import far_past, past, pasts, same
from ownlog.patterns import next_letters, occurrences, pairs
from ownlog.reading import count_before
from ownlog.rows import call, follow
from ownlog.runs import longest_run, runs_many
from ownlog.tables import shows_no_beginning, shows_no_end, shows_no_place
from ownlog.tallies import called, far_tally, most_called, tally, tally_after
from ownlog.twins import partners
from ownlog.wishes import begins, ends, shortest, stands, together
from tests.helper import LETTERS, chance, random_row, random_story, written
from tests.test_elders import small_rows

EXCHANGE = str.maketrans("abcd", "ykcq")


def exchanged(thing):
    """A thing with the letters of its texts exchanged one to one."""
    if isinstance(thing, str):
        return thing.translate(EXCHANGE)
    if isinstance(thing, (list, tuple)):
        return type(thing)(exchanged(own) for own in thing)
    return thing


def backward(last, story):
    """The story of a row read backward that does the same."""
    return [last * 2 ** at - place for at, place in enumerate(story)]


def drawn(seed, many, most=9, letters=4, calls=6):
    numbers = chance(seed)
    for _ in range(many):
        row = random_row(numbers, most, letters)
        yield row, random_story(numbers, row, numbers.randint(0, calls))


class OneLog(unittest.TestCase):

    def test_the_same_row_is_made_in_every_way(self):
        for row, story in drawn(1100, 120):
            late = written(row, story)
            self.assertEqual(follow(row, story), late)
            far = Far(row, story)
            self.assertEqual(far.piece(0, min(1000, far.length())), late)
            book, other, console = Book(row), Book(row), Console()
            console.say("row " + row)
            letters = book.follow(story)
            self.assertEqual(book.row(), late)
            one_by_one = row
            for place, letter in zip(story, letters):
                one_by_one = call(one_by_one, place)
                self.assertEqual(other.call(place), letter)
                self.assertEqual(console.say(f"call {place}"), letter)
            self.assertEqual([one_by_one, other, console.say("show")], [late, book, late])
            self.assertEqual(far.called(), letters)
            self.assertEqual(read_far(show_far(far)), far)

    def test_the_same_log_is_found_in_every_way(self):
        for row, story in drawn(1101, 150):
            late = written(row, story)
            far = Far(row, story)
            letters = far.called()
            self.assertEqual(called(tally(late), len(story)), letters)
            self.assertEqual(far_tally(far), tally(late))
            self.assertGreaterEqual(most_called(tally(late)), len(story))
            number = story_number(row, story)
            self.assertEqual(story_of(row, tally(late), len(story), number), story)
            if row[0] != row[-1]:
                self.see_only_past(row, story, late, far)

    def see_only_past(self, row, story, late, far):
        """See that a row with different ends has one past, whoever tells it."""
        seed, log = past(late)
        self.assertEqual([pasts(late), far_past(far)], [[(seed, log)], (seed, log)])
        # The story is the end of the log, since the calls before it made the row.
        self.assertEqual(log[len(log) - len(story):], story)
        self.assertEqual((seed, log[:len(log) - len(story)]), past(row))
        self.assertEqual(elders(seed), [])
        self.assertIs(are_obstacles(seed, obstacles(seed)), True)
        book = Book(late)
        self.assertEqual([book.unwind(), book.row()], [len(log), seed])
        self.assertEqual(called(tally(late), len(log)), Far(seed, log).called())
        self.assertTrue(same(far, Far(seed, log)))
        console = Console()
        console.say("row " + late)
        self.assertEqual(console.say("past"), show_far(Far(seed, log)))
        if len(late) <= 60:
            number = number_of(4, late, len(log))
            self.assertEqual(row_of(4, len(late), len(log), number), late)
            self.assertLess(number, rows_many(4, len(late), len(log)))
            self.assertIsNone(number_of(4, late, len(log) + 1))

    def test_different_stories_lead_to_different_rows(self):
        for row in ("ab", "abc", "aab", "abb", "abac"):
            for calls in (1, 2, 3):
                found = {}
                last = len(row) - 1
                for story in itertools.product(*[range(last * 2 ** at + 1) for at in range(calls)]):
                    found[written(row, story)] = True
                many = 1
                for at in range(calls):
                    many *= last * 2 ** at + 1
                self.assertEqual(len(found), many)

    def test_all_rows_of_a_length_are_seeds_or_made(self):
        for letters, length in ((2, 5), (2, 7), (3, 5), (2, 6)):
            seeds = 0
            for row in itertools.product(LETTERS[:letters], repeat=length):
                row = "".join(row)
                if row[0] != row[-1]:
                    seeds += int(elders(row) == [])
                    self.assertEqual(obstacles(row) is None, elders(row) != [])
            self.assertEqual(seeds, seeds_many(letters, length))

    def test_long_rows_tell_one_log(self):
        numbers = chance(1102)
        for _ in range(6):
            row = random_row(numbers, 12, 4)
            story = random_story(numbers, row, 64)
            far = Far(row, story)
            length = far.length()
            counts = far_tally(far)
            self.assertTrue(is_tally(counts) and is_row(row) and is_story(len(row) - 1, story))
            self.assertEqual(called(counts, 64), far.called())
            self.assertEqual(tally_after(tally(row), far.called()), counts)
            self.assertEqual(read_tally(show_tally(counts)), counts)
            self.assertEqual(read_far(show_far(far)), far)
            number = story_number(row, story)
            self.assertLess(number, stories_many(row, counts, 64))
            self.assertEqual(story_of(row, counts, 64, number), story)
            self.assertEqual(sum(many for _, many in pairs(far)), length - 1)
            for letter, many in counts:
                self.assertEqual([count_before(far, letter, length), occurrences(far, letter)], [many, many])
                doubles = dict(pairs(far)).get(letter + letter, 0)
                self.assertEqual(runs_many(far, letter), many - doubles)

    def test_what_can_stand_is_what_occurs(self):
        for row, story in drawn(1103, 40, 5, 3, 5):
            far = Far(row, story)
            for start in (0, far.length() // 2, max(0, far.length() - 6)):
                text = far.piece(start, min(6, far.length() - start))
                self.assertEqual(stands(row, text)[0], "story")
                if start == 0:
                    self.assertEqual(begins(row, text)[0], "story")
                if start + len(text) == far.length():
                    self.assertEqual(ends(row, text)[0], "story")
                story_to = stands(row, text)[1]
                self.assertGreater(occurrences(Far(row, story_to), text), 0)

    def test_answers_never_are_shown(self):
        numbers = chance(1104)
        for row, _ in drawn(1105, 60, 6, 3, 0):
            text = "".join(numbers.choice(row) for _ in range(numbers.randint(2, 6)))
            console = Console()
            console.say("row " + row)
            for word, wish, shows in (("begins", begins, shows_no_beginning), ("ends", ends, shows_no_end),
                                      ("stands", stands, shows_no_place)):
                answer, told = wish(row, text)
                self.assertEqual(console.say(f"{word} {text}"), "yes" if answer == "story" else "never")
                if answer == "never":
                    self.assertIs(shows(row, text, told), True)
            if len(text) < len(row):
                alone = [begins(row, text)[0], stands(row, text)[0], ends(row, text)[0]]
                told = together(row, text, [text], text)
                never = ("never", alone.index("never")) if "never" in alone else "story"
                self.assertEqual(told if told[0] == "never" else told[0], never)


class Mirrors(unittest.TestCase):

    def test_rows_read_backward_tell_mirror_images(self):
        for row, story in drawn(1106, 150, 9, 3, 4):
            last = len(row) - 1
            late = written(row, story)
            back = backward(last, story)
            self.assertEqual(written(row[::-1], back), late[::-1])
            far, mirror = Far(row, story), Far(row[::-1], back)
            self.assertEqual(far.called(), mirror.called())
            self.assertEqual(far_tally(far), far_tally(mirror))
            self.assertEqual([(pair[::-1], many) for pair, many in sorted(pairs(far), key=lambda own: own[0][::-1])],
                             pairs(mirror))
            for letter in sorted(set(row)):
                self.assertEqual(longest_run(far, letter)[0], longest_run(mirror, letter)[0])
                self.assertEqual(runs_many(far, letter), runs_many(mirror, letter))
            self.assertEqual(joints(late[::-1]), [len(late) - 1 - at for at in reversed(joints(late))])
            if row[0] != row[-1]:
                seed, log = past(late)
                self.assertEqual(past(late[::-1]), (seed[::-1], backward(len(seed) - 1, log)))
            self.assertEqual(sorted((own[::-1], [len(own) - 1 - at for at in reversed(places)])
                                    for own, places in elders(late)), sorted(elders(late[::-1])))

    def test_letters_exchanged_one_to_one(self):
        for row, story in drawn(1107, 100, 8, 4, 4):
            late = written(row, story)
            other = exchanged(row)
            far, twin = Far(row, story), Far(other, story)
            self.assertEqual(written(other, story), exchanged(late))
            self.assertEqual(twin.called(), exchanged(far.called()))
            self.assertEqual(far_tally(twin), sorted(exchanged(far_tally(far))))
            self.assertEqual(elders(exchanged(late)), exchanged(elders(late)))
            self.assertEqual(obstacles(exchanged(late)), obstacles(late))
            self.assertEqual(pairs(twin), sorted(exchanged(pairs(far))))
            self.assertEqual(next_letters(twin, other[0]), "".join(sorted(exchanged(next_letters(far, row[0])))))
            for letter in sorted(set(row)):
                self.assertEqual(longest_run(twin, exchanged(letter)), longest_run(far, letter))
            if row[0] != row[-1]:
                self.assertEqual(past(exchanged(late)), exchanged(past(late)))
            text = late[:5]
            for where in ("begin", "end", "stand"):
                self.assertEqual(shortest(other, exchanged(text), where), shortest(row, text, where))


class EqualEnds(unittest.TestCase):

    def test_several_elders_are_twins(self):
        for row in small_rows():
            if row[0] == row[-1] and len(row) < 7:
                for place in range(len(row)):
                    late = written(row, [place])
                    found = elders(late)
                    self.assertLessEqual(len(found), 3)
                    others = [other for other, _ in found if other != row]
                    self.assertEqual(sorted(others), sorted(other for other, _, _ in partners(row, place)))
                    places = dict(found)[row]
                    self.assertEqual(places, joints(row) if len(places) > 1 else [place])

    def test_places_without_different_rows_keep_their_order(self):
        for row in ("aba", "aab", "abab", "aaaa"):
            order = sorted_calls(row)
            self.assertEqual(order[0], least_story(row, 1)[0])
            for one, other in itertools.pairwise(order):
                late, later = call(row, one), call(row, other)
                self.assertLessEqual((late, one), (later, other))
                if late != later:
                    place = first_difference(late, later, [])
                    self.assertLess(late[place], later[place])


class Results(unittest.TestCase):

    def queries(self):
        """Calls of what returns lists, of all files."""
        far = Far("aabcb", [1, 8, 0])
        late = written("abcab", [1, 3])
        return [
            far.story, lambda: far.origins(17), lambda: tally(late), lambda: far_tally(far), lambda: elders(late),
            lambda: elders("aaabaaabaaa"), lambda: obstacles("abcab"), lambda: past(late), lambda: pasts("aaaaa"),
            lambda: far_past(far), lambda: joints("ababa"), lambda: partners("aabaaa", 1), lambda: sorted_calls(late),
            lambda: least_story("abc", 3), lambda: pairs(far), lambda: begins("ab", "zz"), lambda: begins("ab", "bb"),
            lambda: ends("ab", "zz"), lambda: ends("ab", "aa"), lambda: stands("ab", "zz"), lambda: stands("abc", "ca"),
            lambda: shortest("abc", "aab", "begin"), lambda: together("abcd", "aab", ["dab"], "cdd"),
            lambda: read_tally("a1 b2"), lambda: Book(late).back(),
            lambda: story_of("abc", [("a", 4), ("b", 2), ("c", 3)], 2, 1),
        ]

    def lists_of(self, thing):
        if isinstance(thing, (list, tuple)):
            own = [thing] if isinstance(thing, list) else []
            return own + [inner for item in thing for inner in self.lists_of(item)]
        return []

    def test_returned_lists_are_new_and_stand_at_one_place(self):
        for at, query in enumerate(self.queries()):
            told = query()
            expected = copy.deepcopy(told)
            found = self.lists_of(told)
            self.assertEqual(len({id(own) for own in found}), len(found), at)
            for own in found:
                own.append("spoiled")
            self.assertEqual(query(), expected, at)


if __name__ == "__main__":
    unittest.main()
