"""Twins: different rows of which calls make the same row."""

from ownlog.elders import elders
from ownlog.errors import NoTwins
from ownlog.rows import made


def root(text):
    """Return the shortest text whose repetition the text is."""
    many = len(text)
    length = 1
    while many % length != 0 or text[:length] * (many // length) != text:
        length += 1
    return text[:length]


def begun(word, many):
    """Return the first so many letters of the word repeated for ever."""
    return (word * (many // len(word) + 1))[:many]


def check_twins(word, one, other, last):
    """Raise the error of the first condition of twins that does not hold."""
    length = len(word)
    conditions = (
        length >= 2 and root(word) == word,
        one < other <= last,
        (other - one) % length == 0,
        one % length != 0,
        (last - 2 * one) % length == 0,
        word[0] == word[one % length],
    )
    for at, holds in enumerate(conditions):
        if not holds:
            raise NoTwins(at)


def check_triple(word, one, other, last):
    """Raise the error of the first condition of three elders that does not hold, beyond those of twins."""
    if one >= len(word):
        raise NoTwins(6)
    if not word.endswith(word[:one]):
        raise NoTwins(7)
    if other - one >= last - 2 * one:
        raise NoTwins(8)


def twins(word, one, other, last):
    """Return the twins at one and other by the word."""
    check_twins(word, one, other, last)
    return begun(word, other) + begun(word, last - other + 1), begun(word, one) + begun(word, last - one + 1)


def triple(word, one, other, last):
    """Return three different rows that are elders of one row."""
    first, second = twins(word, one, other, last)
    check_triple(word, one, other, last)
    return first, second, begun(word, one) + begun(word, other) + begun(word, last - one - other + 1)


def partners(row, place):
    """Return the twins of the row at a place, each with its place and the word."""
    found = []
    # Two rows are twins if and only if a call of each makes the same row; then each has only one such place.
    for other, places in elders(made(row, place)):
        its = places[0]
        if other != row:
            # The row with the lesser place begins with the word, repeated up to the distance of the places.
            first = row if place < its else other
            found.append((other, its, root(first[:abs(its - place)])))
    return found


def are_twins(row, place, other, its, word):
    """Return whether two rows are twins by the word, at a place of the one and a place of the other."""
    try:
        if place < its:
            return twins(word, place, its, len(row) - 1) == (row, other)
        return twins(word, its, place, len(row) - 1) == (other, row)
    except NoTwins:
        return False
