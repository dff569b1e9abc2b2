"""Books: rows that calls change, and that are taken back."""

from ownlog.elders import elder
from ownlog.errors import NoElder, Several, Wrong
from ownlog.far import called_letters
from ownlog.kinds import MOST_CALLS, is_integer, is_row
from ownlog.rows import call, follow


class Book:
    """A row, and nothing else."""

    def __init__(self, row):
        if not is_row(row):
            raise Wrong(0)
        self._row = row

    def __eq__(self, other):
        return isinstance(other, Book) and self._row == other._row

    def __len__(self):
        return len(self._row)

    def row(self):
        """Return the row."""
        return self._row

    def copied(self):
        """Return a Book with the same row that goes on independently."""
        return Book(self._row)

    def call(self, place):
        """Call a place, and return the called letter."""
        if not is_integer(place):
            raise Wrong(0)
        new = call(self._row, place)
        letter = self._row[place]
        self._row = new
        return letter

    def follow(self, calls):
        """Do calls, one after another, and return the text of the called letters."""
        if not isinstance(calls, list) or len(calls) > MOST_CALLS:
            raise Wrong(0)
        if not all([is_integer(place) for place in calls]):
            raise Wrong(0)
        new = follow(self._row, calls)
        letters = called_letters(self._row, calls)
        self._row = new
        return letters

    def back(self):
        """Take the row back to its only elder, and return the places of this elder."""
        before, places = elder(self._row)
        self._row = before
        return places

    def unwind(self):
        """Take the row back as often as it has an only elder, and return how often that is."""
        many = 0
        try:
            while True:
                self.back()
                many = many + 1
        except (NoElder, Several):
            return many
