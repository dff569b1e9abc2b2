"""Rows that are written, and the rows that calls of their places make."""

from ownlog.errors import NoCall, NoPlace, TooLong
from ownlog.kinds import MOST_LETTERS


def made(row, place):
    """Return the row that a call of one of its places makes, however long it is."""
    before = row[:place]
    after = row[place + 1:]
    return before + before + row[place] + after + after


def call(row, place):
    """Return the row that a call of the place makes."""
    last = len(row) - 1
    if not 0 <= place <= last:
        raise NoPlace(place)
    if 2 * last + 1 > MOST_LETTERS:
        raise TooLong(MOST_LETTERS)
    return made(row, place)


def follow(row, calls):
    """Return the row that the calls make, one after another."""
    last = len(row) - 1
    for at, place in enumerate(calls):
        if not 0 <= place <= last:
            raise NoCall(at)
        last = 2 * last
    # Nothing is written before this, since 64 calls can make rows that no memory holds.
    if last + 1 > MOST_LETTERS:
        raise TooLong(MOST_LETTERS)
    result = row
    for place in calls:
        result = made(result, place)
    return result
