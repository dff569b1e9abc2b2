"""Long rows, which are read without being written."""

from ownlog.errors import NoPlace, TooLong, TooMany, Wrong
from ownlog.kinds import MOST_CALLS, MOST_LETTERS, is_row, is_story
from ownlog.maps import shown


def shown_places(last, calls, place):
    """Return a place of the row that the calls have made, and what it shows before each of them, the last call first.

    last is the last place of the row that the calls have made.
    """
    places = [place]
    last_then = last
    place_then = place
    for called in reversed(calls):
        # A call doubles the last place, so this is the last place before it.
        last_then = last_then // 2
        place_then = shown(last_then, called, place_then)
        places.append(place_then)
    return places


def called_letters(row, calls):
    """Return the letters of the row that the calls choose, in their order."""
    letters = []
    for at, place in enumerate(calls):
        places = shown_places((len(row) - 1) << at, calls[:at], place)
        letters.append(row[places[-1]])
    return "".join(letters)


def spans_before(last, called, low, high):
    """Return the spans of the row before a call that the places from low to before high show, in their order.

    last is the last place of the row before the call. What a call makes is what stands before the called place,
    then the whole row, then what stands after the called place.
    """
    first = shown(last, called, low)
    # Over a cut between these pieces the shown places jump, so here is none.
    if shown(last, called, high - 1) - first == high - 1 - low:
        return [(first, first + high - low)]
    pieces = ((0, called, 0), (called, called + last + 1, called), (called + last + 1, 2 * last + 1, last))
    return [(max(low, start) - back, min(high, stop) - back) for start, stop, back in pieces
            if max(low, start) < min(high, stop)]


def text_between(row, calls, start, stop):
    """Return the text of the row that the calls have made, from the place start to before the place stop."""
    spans = [(start, stop)]
    for at in reversed(range(len(calls))):
        last = (len(row) - 1) << at
        spans = [span for low, high in spans for span in spans_before(last, calls[at], low, high)]
    return "".join([row[low:high] for low, high in spans])


class Far:
    """The long row to which a row leads by a story."""

    def __init__(self, row, story):
        if not is_row(row):
            raise Wrong(0)
        if not is_story(len(row) - 1, story):
            raise Wrong(1)
        self._row = row
        self._story = list(story)

    def __eq__(self, other):
        return isinstance(other, Far) and self._row == other._row and self._story == other._story

    def __repr__(self):
        return f"Far({self._row!r}, {self._story!r})"

    def row(self):
        """Return the row that leads to the long row."""
        return self._row

    def story(self):
        """Return the calls that lead to the long row."""
        return list(self._story)

    def length(self):
        """Return the number of letters of the long row."""
        return ((len(self._row) - 1) << len(self._story)) + 1

    def letter(self, place):
        """Return the letter at a place of the long row."""
        return self._row[self.origins(place)[-1]]

    def origins(self, place):
        """Return the place, and the places before each call that it shows, down to the row."""
        self._check_place(place)
        return shown_places(self.length() - 1, self._story, place)

    def piece(self, start, many):
        """Return the text of so many letters from the place start on."""
        if many > MOST_LETTERS:
            raise TooLong(MOST_LETTERS)
        if start + many > self.length():
            raise NoPlace(start)
        return text_between(self._row, self._story, start, start + many)

    def called(self):
        """Return the called letters, in the order of the calls."""
        return called_letters(self._row, self._story)

    def after(self, place):
        """Return the Far with one more call."""
        self._check_place(place)
        if len(self._story) >= MOST_CALLS:
            raise TooMany(MOST_CALLS)
        return Far(self._row, self._story + [place])

    def _check_place(self, place):
        if not 0 <= place < self.length():
            raise NoPlace(place)
