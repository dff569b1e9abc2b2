"""Counts in long rows: letters, and the places that descend from a place of the row."""

from ownlog.errors import NoNumber, NoPlace


class Marks:
    """The places that descend from some places of a row, while calls make it longer.

    For each call it keeps the called place, the last place before the call, and of the row before the call:
    how many of these places are less than the called one, whether that is one of them (1 or 0), and how many
    there are. So each question takes one walk back through the calls.
    """

    def __init__(self, row, places):
        """Take the ascending places of a row."""
        self._last = len(row) - 1
        self._places = list(places)
        self._steps = []
        self._total = len(places)

    def call(self, place):
        """Do a call of a place of the row made by now."""
        before = self.before(place)
        here = self.before(place + 1) - before
        self._steps.append((place, self._last, before, here, self._total))
        self._total = 2 * self._total - here
        self._last = 2 * self._last

    def total(self):
        """Return how many there are."""
        return self._total

    def before(self, stop):
        """Return how many are less than stop."""
        counted = 0
        stop_then = stop
        for called, last, before, here, total in reversed(self._steps):
            if stop_then > called + last + 1:
                # The places from called + last + 1 on show those from called + 1 on.
                counted = counted + total - here
                stop_then = stop_then - last
            elif stop_then > called:
                counted = counted + before
                stop_then = stop_then - called
        return counted + len([place for place in self._places if place < stop_then])

    def numbered(self, number):
        """Return the one with a number that is less than the total, in ascending order."""
        distance = 0
        number_then = number
        for called, last, before, here, total in reversed(self._steps):
            if number_then >= before + total:
                number_then = number_then - total + here
                distance = distance + last
            elif number_then >= before:
                number_then = number_then - before
                distance = distance + called
        return distance + self._places[number_then]


def row_marks(row, letter):
    """Return the places of the row with a letter."""
    return Marks(row, [place for place, own in enumerate(row) if own == letter])


def follow_story(marks, story):
    """Do the calls of a story to the marks."""
    for place in story:
        marks.call(place)


def letter_marks(far, letter):
    """Return the places of the long row with a letter."""
    marks = row_marks(far.row(), letter)
    follow_story(marks, far.story())
    return marks


def place_marks(far, place):
    """Return the places of the long row that descend from a place of the row."""
    if not 0 <= place < len(far.row()):
        raise NoPlace(place)
    marks = Marks(far.row(), [place])
    follow_story(marks, far.story())
    return marks


def before_stop(far, marks, stop):
    """Return how many of the marks are less than stop, which the long row has or ends before."""
    if not 0 <= stop <= far.length():
        raise NoPlace(stop)
    return marks.before(stop)


def with_number(marks, number):
    """Return the one of the marks with a number."""
    if number >= marks.total():
        raise NoNumber(number)
    return marks.numbered(number)


def count_before(far, letter, stop):
    """Return the number of places before stop with this letter."""
    return before_stop(far, letter_marks(far, letter), stop)


def letter_place(far, letter, number):
    """Return the place of the letter's occurrence with this number."""
    return with_number(letter_marks(far, letter), number)


def copies(far, place):
    """Return how many places descend from a place of the row."""
    return place_marks(far, place).total()


def copy_at(far, place, number):
    """Return the place with a number among those that descend from a place of the row."""
    return with_number(place_marks(far, place), number)


def copies_before(far, place, stop):
    """Return how many of the places that descend from a place of the row are less than stop."""
    return before_stop(far, place_marks(far, place), stop)
