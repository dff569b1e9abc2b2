"""Rows with different ends: how many calls made them, and their numbers.

Such a row has exactly one past. So the rows that so many calls make are as many as the rows from which they start,
times the stories of so many calls.
"""

from ownlog.elders import elders
from ownlog.errors import NoNumber
from ownlog.rows import made

ALPHABET = "abcdefghijklmnopqrstuvwxyz"


def start_last(length, calls):
    """Return the last place of rows from which so many calls make rows of a length, or 0 if there are none."""
    last = (length - 1) >> calls
    if last << calls != length - 1:
        return 0
    return last


def starts_many(letters, last):
    """Return how many rows with this last place and these letters have different ends."""
    if last == 0:
        return 0
    many = letters * (letters - 1)
    for _ in range(last - 1):
        many = many * letters
    return many


def ways_many(last, calls):
    """Return how many stories of so many calls a row with this last place has."""
    many = 1
    for at in range(calls):
        many = many * ((last << at) + 1)
    return many


def rows_many(letters, length, calls):
    """Return how many rows of the length, with these letters and different ends, at least so many calls made."""
    last = start_last(length, calls)
    return starts_many(letters, last) * ways_many(last, calls)


def seeds_many(letters, length):
    """Return how many rows of the length, with these letters and different ends, are seeds."""
    return rows_many(letters, length, 0) - rows_many(letters, length, 1)


def last_letters(letters, start):
    """Return the letters that may stand at the end of a row that begins with a text."""
    return ALPHABET[:letters].replace(start[0], "")


def numbered_start(letters, last, number):
    """Return the row with a number among those with this last place and different ends."""
    rest = number // (letters - 1)
    signs = []
    for _ in range(last):
        signs.append(ALPHABET[rest % letters])
        rest = rest // letters
    start = "".join(reversed(signs))
    return start + last_letters(letters, start)[number % (letters - 1)]


def start_number(letters, row):
    """Return the number of a row among those of its length with different ends."""
    number = 0
    for letter in row[:-1]:
        number = number * letters + ALPHABET.index(letter)
    return number * (letters - 1) + last_letters(letters, row).index(row[-1])


def numbered_story(last, calls, number):
    """Return the story with a number among those of so many calls of a row with this last place."""
    story = []
    rest = number
    for at in reversed(range(calls)):
        places = (last << at) + 1
        story.append(rest % places)
        rest = rest // places
    return list(reversed(story))


def row_of(letters, length, calls, number):
    """Return the row with a number among those that rows_many counts."""
    if number >= rows_many(letters, length, calls):
        raise NoNumber(number)
    last = start_last(length, calls)
    many = ways_many(last, calls)
    row = numbered_start(letters, last, number // many)
    for place in numbered_story(last, calls, number % many):
        row = made(row, place)
    return row


def number_of(letters, row, calls):
    """Return the number of a row among those that rows_many counts, or None if it is not one of them."""
    if row[0] == row[-1] or any([letter not in ALPHABET[:letters] for letter in row]):
        return None
    start = row
    number = 0
    many = 1
    for _ in range(calls):
        found = elders(start)
        if not found:
            return None
        start, places = found[0]
        # The calls are found from the last one back, so each counts all stories after it.
        number = number + places[0] * many
        many = many * len(start)
    return start_number(letters, start) * many + number
