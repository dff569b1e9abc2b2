"""What several tests share: plain, slow ways to the same answers, and the document's examples as code."""

import copy
import random

from ownlog.errors import OwnError

LETTERS = "abcdefghijklmnopqrstuvwxyz"


class Stubborn:
    """A value that cannot be shown, compared, measured or told true or false."""

    def _refuse(self, *rest):
        raise RuntimeError("this value does nothing")

    __repr__ = __str__ = __eq__ = __ne__ = __lt__ = __len__ = __bool__ = __format__ = _refuse
    __hash__ = None


def other_things():
    """Values that are no integer, letter, row, tally or story."""
    return [
        None, True, False, b"", b"a", b"abc", (), ("a", 1), ("a",), (1, 2), {}, {"a": 1}, {0: 0},
        set(), {0}, {"a"}, frozenset({1}), range(2), object(), Stubborn(), len, str, int, OwnError,
        lambda: 0, iter([0]), bytearray(b"ab"), [[]], [None], [[0]], [()], [""], ["a", "b"], ["ab"], [{}],
        [b"a"], [Stubborn()],
    ]


def written(row, calls):
    """The row that the calls make, written letter by letter after the document's words."""
    for place in calls:
        x, a, y = row[:place], row[place], row[place + 1:]
        row = x + x + a + y + y
    return row


def pieces(last, called):
    """After a call: for each of the pieces x, x, a, y, y, where it starts, its old start, its length."""
    after = last - called
    return [
        (0, 0, called),
        (called, 0, called),
        (2 * called, called, 1),
        (2 * called + 1, called + 1, after),
        (2 * called + 1 + after, called + 1, after),
    ]


def old_place(last, called, place):
    """The place of the row before the call that a place of the new row repeats, by the pieces."""
    for start, old, many in pieces(last, called):
        if start <= place < start + many:
            return old + place - start
    raise AssertionError("no such place")


def far_origins(row, calls, place):
    """The places that show one another, by the pieces of each call."""
    found = [place]
    for at in reversed(range(len(calls))):
        found.append(old_place((len(row) - 1) * 2 ** at, calls[at], found[-1]))
    return found


def far_letter(row, calls, place):
    """The letter at a place of a long row, by the pieces of each call."""
    return row[far_origins(row, calls, place)[-1]]


def all_stories(row, calls):
    """All stories of so many calls, in ascending order, each with the row to which it leads."""
    found = [([], row)]
    for _ in range(calls):
        found = [(story + [place], written(late, [place])) for story, late in found for place in range(len(late))]
    return found


def counted(row):
    """The tally of a row, letter by letter of the alphabet."""
    return [(letter, row.count(letter)) for letter in LETTERS if row.count(letter) > 0]


def plain_elders(row):
    """The elders of a row with their places: for each place, x + a + y read from the pieces x, x, a, y, y."""
    if len(row) % 2 == 0:
        return []
    last = len(row) // 2
    found = {}
    for place in range(last + 1):
        older = row[:place] + row[2 * place] + row[2 * place + 1:place + last + 1]
        if written(older, [place]) == row:
            found.setdefault(older, []).append(place)
    return sorted(found.items(), key=lambda item: item[1])


def plain_pasts(row):
    """All pasts of a row, over all elders and all their places."""
    found = plain_elders(row)
    if not found:
        return [(row, [])]
    return sorted((seed, story + [place]) for older, places in found for seed, story in plain_pasts(older)
                  for place in places)


def changed(row, place, letter="q"):
    """The row with another letter at a place."""
    return row[:place] + ("r" if row[place] == letter else letter) + row[place + 1:]


def far_counter(row, calls, marked):
    """The function that counts the places before a stop which descend from a marked place of the row."""
    kept = {}

    def count(many, stop):
        if many == 0:
            return len([place for place in marked if place < stop])
        if (many, stop) not in kept:
            last = (len(row) - 1) * 2 ** (many - 1)
            total = 0
            for start, old, length in pieces(last, calls[many - 1]):
                taken = min(length, stop - start)
                if taken > 0:
                    total += count(many - 1, old + taken) - count(many - 1, old)
            kept[many, stop] = total
        return kept[many, stop]

    return lambda stop: count(len(calls), stop)


def random_row(chance, most=8, letters=3):
    """A row of 2 to most letters, from the first letters of the alphabet."""
    return "".join(chance.choice(LETTERS[:letters]) for _ in range(chance.randint(2, most)))


def random_story(chance, row, many):
    """A story of so many calls, the ends and their neighbours among them often."""
    story = []
    last = len(row) - 1
    for _ in range(many):
        edges = [0, 1, last - 1, last, last // 2]
        story.append(chance.choice(edges) if chance.random() < 0.4 else chance.randint(0, last))
        last = 2 * last
    return story


def chance(seed):
    """A source of numbers that are the same at each run."""
    return random.Random(seed)


def shown_error(error):
    """An error as the document writes it: its class and its fields."""
    names = {"Wrong": "place", "NoPlace": "place", "NoCall": "at", "TooLong": "limit", "TooMany": "limit",
             "NoNumber": "number", "NoLetter": "at", "NotCalled": "many", "Several": "many",
             "NoTwins": "at", "NoText": "at"}
    name = type(error).__name__
    field = repr(getattr(error, names[name])) if name in names else ""
    return f"{name}({field})"


def refusal(function, *arguments, **named):
    """The error that a call of the function raises, as the document writes it, or None."""
    try:
        function(*arguments, **named)
    except OwnError as error:
        return shown_error(error)
    return None


def answer(statement, names):
    """What the document prints under a statement: the value as repr writes it, or the error."""
    try:
        value = eval(statement, names)
    except OwnError as error:
        return "raises " + shown_error(error)
    return repr(value)


def failed_examples(text):
    """Run examples as the document prints them; list those that do not hold."""
    names = {}
    lines = text.strip("\n").split("\n")
    failed = []
    at = 0
    while at < len(lines):
        statement = lines[at].removeprefix(">>> ")
        at += 1
        if at < len(lines) and not lines[at].startswith(">>> "):
            told = answer(statement, names)
            if told != lines[at]:
                failed.append((statement, lines[at], told))
            at += 1
        else:
            exec(statement, names)
    return failed


def same_after(test, function, *arguments):
    """Call the function and see that it left its arguments as they were; return what it returned."""
    before = copy.deepcopy(arguments)
    result = function(*arguments)
    test.assertEqual(arguments, before)
    return result


def places_in(text, pattern):
    """The places of a written text at which a pattern occurs, by a look at each place."""
    return [at for at in range(len(text)) if text[at:at + len(pattern)] == pattern]


def pattern_counter(row, calls, pattern):
    """The function that counts the places before a stop at which a pattern occurs in a long row.

    What starts in a piece of a call ends in it, or is looked at letter by letter.
    """
    letters = {}
    counts = {}
    many = len(pattern)

    def length(level):
        return (len(row) - 1) * 2 ** level + 1

    def letter(level, place):
        if level == 0:
            return row[place]
        if (level, place) not in letters:
            older = old_place(length(level - 1) - 1, calls[level - 1], place)
            letters[level, place] = letter(level - 1, older)
        return letters[level, place]

    def starts(level, place):
        return place + many <= length(level) and all(letter(level, place + at) == pattern[at] for at in range(many))

    def count(level, stop):
        if level == 0:
            return len([place for place in range(min(stop, len(row))) if starts(0, place)])
        if (level, stop) not in counts:
            total = 0
            for start, old, size in pieces(length(level - 1) - 1, calls[level - 1]):
                inner = max(0, size - many + 1)
                taken = min(inner, stop - start)
                if taken > 0:
                    total += count(level - 1, old + taken) - count(level - 1, old)
                total += len([at for at in range(start + inner, min(stop, start + size)) if starts(level, at)])
            counts[level, stop] = total
        return counts[level, stop]

    return lambda stop: count(len(calls), stop)
