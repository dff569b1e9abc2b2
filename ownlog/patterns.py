"""Patterns in long rows: how often they occur, where, and which letters stand after them.

What a call makes is what stands before the called place, then the whole row, then what stands after the called
place. So a pattern occurs where it did, once or twice, and perhaps newly over the two cuts between these pieces.
"""

from ownlog.far import text_between
from ownlog.reading import before_stop, follow_story, with_number


def windows(text, many):
    """Return all pieces of so many letters of a text, in the order of their places."""
    return [text[at:at + many] for at in range(len(text) - many + 1)]


def cut_spans(last, called, many):
    """Return, for each cut that a call makes, the span of the pieces of so many letters that stand over it.

    last is the last place before the call. A piece over both cuts belongs to the first one.
    """
    length = 2 * last + 1
    cut = called + last + 1
    return [
        (max(0, called - many + 1), min(length, called + many - 1)),
        (max(called, cut - many + 1), min(length, cut + many - 1)),
    ]


class Finds:
    """The places at which a pattern occurs in a row, while calls make it longer.

    For each call it keeps the called place, the last place before the call, and of the occurrences before the call:
    how many end before the called place, how many there are, and how many start up to the called place; further the
    places of those over the first cut, and over the second one.
    """

    def __init__(self, row, pattern):
        self._row = row
        self._pattern = pattern
        self._calls = []
        self._places = self._found(0, len(row))
        self._steps = []
        self._total = len(self._places)

    def call(self, place):
        """Do a call of a place of the row made by now."""
        many = len(self._pattern)
        last = (len(self._row) - 1) << len(self._calls)
        ended = self.before(place - many + 1)
        started = self.before(place + 1)
        self._calls.append(place)
        first, second = [self._found(start, stop) for start, stop in cut_spans(last, place, many)]
        self._steps.append((place, last, ended, self._total, started, first, second))
        self._total = ended + len(first) + self._total + len(second) + self._total - started

    def total(self):
        """Return how many there are."""
        return self._total

    def before(self, stop):
        """Return how many are less than stop."""
        counted = 0
        stop_then = stop
        for called, last, ended, total, started, first, second in reversed(self._steps):
            if stop_then <= called:
                counted = counted + len([place for place in first if place < stop_then])
                stop_then = min(stop_then, called - len(self._pattern) + 1)
            elif stop_then <= called + last + 1:
                counted = counted + ended + len(first) + len([place for place in second if place < stop_then])
                stop_then = stop_then - called
            else:
                counted = counted + ended + len(first) + total + len(second) - started
                stop_then = stop_then - last
        return counted + len([place for place in self._places if place < stop_then])

    def numbered(self, number):
        """Return the one with a number that is less than the total, in ascending order."""
        distance = 0
        number_then = number
        for called, last, ended, total, started, first, second in reversed(self._steps):
            if number_then >= ended:
                number_then = number_then - ended
                if number_then < len(first):
                    return distance + first[number_then]
                number_then = number_then - len(first)
                if number_then < total:
                    distance = distance + called
                elif number_then < total + len(second):
                    return distance + second[number_then - total]
                else:
                    number_then = number_then - total - len(second) + started
                    distance = distance + last
        return distance + self._places[number_then]

    def _found(self, start, stop):
        """Return the places from start on at which the pattern occurs and ends before stop."""
        text = text_between(self._row, self._calls, start, stop)
        pieces = windows(text, len(self._pattern))
        return [start + at for at, piece in enumerate(pieces) if piece == self._pattern]


def finds(far, pattern):
    """Return the places of the long row at which a pattern occurs."""
    found = Finds(far.row(), pattern)
    follow_story(found, far.story())
    return found


def occurrences(far, pattern):
    """Return the number of places at which the pattern occurs."""
    return finds(far, pattern).total()


def occurrences_before(far, pattern, stop):
    """Return how many of the places at which the pattern occurs are less than stop."""
    return before_stop(far, finds(far, pattern), stop)


def pattern_place(far, pattern, number):
    """Return the place with a number among those at which the pattern occurs."""
    return with_number(finds(far, pattern), number)


def first_from(far, pattern, start):
    """Return the least place from start on at which the pattern occurs, or None."""
    found = finds(far, pattern)
    number = before_stop(far, found, start)
    if number == found.total():
        return None
    return found.numbered(number)


def counted_windows(far, many):
    """Return how often each piece of so many letters occurs in the long row."""
    row = far.row()
    story = far.story()
    counts = {}
    for piece in windows(row, many):
        counts[piece] = counts.get(piece, 0) + 1
    for at, called in enumerate(story):
        last = (len(row) - 1) << at
        # A call repeats all pieces, but not those with the called place.
        counts = {piece: 2 * number for piece, number in counts.items()}
        around = text_between(row, story[:at], max(0, called - many + 1), min(last + 1, called + many))
        for piece in windows(around, many):
            counts[piece] = counts[piece] - 1
        for start, stop in cut_spans(last, called, many):
            for piece in windows(text_between(row, story[:at + 1], start, stop), many):
                counts[piece] = counts.get(piece, 0) + 1
    return counts


def pairs(far):
    """Return the patterns of two letters that occur, in ascending order, with the numbers of their places."""
    return sorted(counted_windows(far, 2).items())


def next_letters(far, pattern):
    """Return the different letters that stand directly after an occurrence of the pattern, in ascending order."""
    found = counted_windows(far, len(pattern) + 1)
    return "".join(sorted([piece[-1] for piece in found if piece.startswith(pattern)]))
